import PyProof.Rows.All
import Wide.All
import OpenK.AllK
import Wide.FinOn
import HandS.ForMost
import HandS.Strs
import HandS.TupSets
import HandS.SortInts
import HandS.IsInst
import HandS.TupLe
import HandS.TupAny
import HandS.DictComp
import HandS.Style
import HandS.Walk
import HandS.Conv
import KE.SortData
import KE.GoesMore
import HandS.Exc
import HandS.ExcOwn
import HandS.ExcInit
import HandS.ExcField
import HandS.TryOnly
import HandS.TryMany
import HandS.WordsExc
import KE.KExcIs
import HandS.ExcIs
import HandS.Deep
import HandS.SetBool
import KE.DataMinMax
import PyProof.Rows.RowBridgeK
import PySem.Challenge.RW_fewtraps_k87_cuts_without_members
set_option Elab.async false
set_option linter.all false
set_option maxRecDepth 100000
set_option maxHeartbeats 4000000
/-! The layer's additions: repr of data, calls of defs that ask for it, sets of ints, a dict comprehension given to a name. -/
namespace Ft
open PySem PySem.Spec PyProof.Rows L2

/-! ### repr of data -/
mutual
theorem dp_plain {K : PySem.W.Frag} {H : Hp} : ∀ (d : PyData) (v : V), Dp K H v d → d.hasDict = false
  | .none, _, _ => by simp only [PyData.hasDict]
  | .bool _, _, _ => by simp only [PyData.hasDict]
  | .int _, _, _ => by simp only [PyData.hasDict]
  | .str _, _, _ => by simp only [PyData.hasDict]
  | .list ds, _, h => by
    cases h with
    | lst _ a => simp only [PyData.hasDict]; exact dp_plains ds _ a
  | .tuple ds, _, h => by
    cases h with
    | tup _ a => simp only [PyData.hasDict]; exact dp_plains ds _ a
  | .dict _, _, h => by cases h
theorem dp_plains {K : PySem.W.Frag} {H : Hp} : ∀ (ds : List PyData) (vs : List V), DpAll K H vs ds → PyData.hasDictAll ds = false
  | [], _, _ => by simp only [PyData.hasDictAll]
  | d :: ds, _, h => by
    cases h with
    | cons h1 h2 => simp only [PyData.hasDictAll, dp_plain d _ h1, dp_plains ds _ h2, Bool.or_self]
end

/-- data that repr shows without meeting a bound -/
structure Shows (d : PyData) : Prop where
  sh : d.showable = true
  lv : d.leavesShort 13 = true
  wt : d.weight ≤ 2 ^ 20
  dp : d.depth ≤ 60

def rRepr (K : PySem.W.Frag) : List V → Hp → VK → Prop := fun xs H Q => ∃ x d, xs = [x] ∧ Dp K H x d ∧ Shows d ∧ Q (.str d.shown) H
theorem cr_repr {X : Cx} (hg : X.A.guards = some []) (hu : X.A.units + 64 < cLine) : CallR X (.builtin "repr") (rRepr X.K) := by
  intro pins s σ H xs us Q I r h
  obtain ⟨x, d, rfl, hd, S, q⟩ := h
  obtain ⟨u, rfl, rx⟩ := vals1 r
  have fits := PyData.shown_fits (by decide) (by decide) S.lv S.wt
  cases hd with
  | non =>
    cases rx
    simp only [PyData.shown] at q
    exact PySem.P.repr_of_none ⟨.str _, H, I.tok _, ⟨_, rfl⟩, q⟩
  | bl b =>
    cases rx
    simp only [PyData.shown] at q
    exact PySem.P.repr_of_bool ⟨.str _, H, I.tok _, ⟨_, rfl⟩, q⟩
  | int i =>
    obtain ⟨t, rfl⟩ := rx
    have hs := S.sh
    simp only [PyData.showable, decide_eq_true_eq] at hs
    simp only [PyData.shown] at q
    exact PySem.P.repr_of_int hs ⟨.str _, H, I.tok _, ⟨_, rfl⟩, q⟩
  | str z =>
    obtain ⟨t, rfl⟩ := rx
    simp only [PyData.shown] at q fits
    exact PySem.P.repr_of_str ⟨.str _, H, I.tok _, ⟨_, rfl⟩, q⟩ fits
  | lst h1 h2 =>
    obtain ⟨as, rd⟩ := Dp.reads I _ _ u (.lst h1 h2) rx
    cases rx
    exact repr_of_reads' rd S.sh (PyData.noDict_hsm (dp_plain _ _ (Dp.lst h1 h2))) hg (by have := S.dp; omega) (fun _ _ e => e) (fun h' v tk k => ⟨.str _, H, I.kept k, ⟨_, rfl⟩, q⟩) fits
  | tup h1 h2 =>
    obtain ⟨as, rd⟩ := Dp.reads I _ _ u (.tup h1 h2) rx
    cases rx
    exact repr_of_reads' rd S.sh (PyData.noDict_hsm (dp_plain _ _ (Dp.tup h1 h2))) hg (by have := S.dp; omega) (fun _ _ e => e) (fun h' v tk k => ⟨.str _, H, I.kept k, ⟨_, rfl⟩, q⟩) fits
end Ft

set_option Elab.async false
set_option linter.all false
set_option maxRecDepth 100000
set_option maxHeartbeats 4000000
namespace Ft
open PySem PySem.Spec PyProof.Rows L2
/-! ### defs that are called where no repr is under way -/
structure FnG (P : Program) (w : World) (K : PySem.W.Frag) (mg : Str → Option Value) (base : Heap) (k : Nat) (f : Addr) (fd : FuncData) (ps : List Str) (sp : Sp) : Prop where
  many : ∀ vs H Q E, sp vs H Q E → vs.length = ps.length
  goes : ∀ (A : Around) (out : List Env) (s : Shared) (H : Hp) (args : Args) (us : List Value) (vs : List V) (Q : VK) (E : XK), A.guards = some [] → Room k A → Env0 P w K mg base A out s H →
    BindsTo s fd args (ps.zip us) → Vals vs us → sp vs H Q E → codeAny (model P w) A (.call (.ref f) args) (CR CX0 out P w H s Q E) s
section
variable {P : Program} {w : World} {K : PySem.W.Frag} {mg : Str → Option Value} {base : Heap}
/-- by its body -/
theorem gfun {x : Str} {st : Stmt} {f : Addr} {fd : FuncData} {N ps : List Str} {k : Nat} {sp : Sp} (F : L2.Fun K x x st f fd) (S : FnScope N ps (L2.defScope st)) (many : ∀ vs H Q E, sp vs H Q E → vs.length = ps.length)
    (body : ∀ (cdv : Value) (A : Around) (out : List Env) (s : Shared) (H : Hp) (vs : List V) (Q : VK) (E : XK), A.guards = some [] → Room k (A.deeper (envOfC x (L2.defScope st) s.heap.objs.size f cdv)) → sp vs H Q E →
      ∃ t, PSs (cxOf L2.CX0 P w K mg base N x (L2.defScope st) f cdv A out s H E).nox (L2.defBody st) t ∧ t { nx := fun _ H' => Q .non H', rt := Q } (start N vs) H) :
    FnG P w K mg base (k + 1) f fd ps sp := by
  obtain ⟨oc, od, kV, doc, pm, an, cdv, ct, osl, rfl, lk, hcd⟩ := F.ex
  refine ⟨many, ?_⟩
  intro A out s H args us vs Q E hg hr e0 hb r hsp
  have hin : K.In s.heap := e0.mod.kin.keeps (fun b o q => (e0.bs b o q).1)
  have nolim : s.heap.NoLimit := e0.mod.nolimit.keeps (fun b o q => (e0.bs b o q).1)
  have kinds : ∀ y ∈ ps.zip us, (L2.defScope st).names.lookup y.1 = some .local ∨ ((L2.defScope st).names.lookup y.1 = some .cell ∧ ((cellsFrom (s.heap.objs.size + 1) (L2.defScope st).names []).lookup y.1).isSome = true) := by
    intro y hy
    cases S.par y.1 (List.of_mem_zip (a := y.1) (b := y.2) hy).1 with
    | inl q => exact .inl q
    | inr q => exact .inr ⟨q, PySem.W.cellsFrom_some _ _ _ (.inl q)⟩
  refine codeAny_call_function hr.depth (hin _ _ lk) rfl S.co S.gen rfl (PySem.W.codeRec_of hin hcd) (hb _ _ _ _ ?_)
  refine wpAny_newFunctionEnv_cells S.kind kinds fun env he s1 z => ?_
  subst he
  refine ⟨nolim.keeps z.toInCall.keep, codeAny_func ?_⟩
  obtain ⟨t, ht, hq⟩ := body cdv A out s H vs Q E hg (hr.deeper _) hsp
  have I := inv_start (CX := L2.CX0) (E := E) (f := f) (cd := cdv) (qual := x) S hr.hd e0 (many _ _ _ _ hsp) r z
  refine wpAny_mono (ht.nox.run [] s1 (start N vs) H _ I hq) ?_ (fun e s' hs => hs)
  intro fl s' hs
  have ends : ∀ {σ' : L2.St} {H' : Hp} {v : V} {u : Value}, Inv (cxOf L2.CX0 P w K mg base N x (L2.defScope st) f cdv A out s H E) [] σ' H' s' → RelV v u → Q v H' → CE out P w H s Q u s' := by
    intro σ' H' v u J rv q
    exact ⟨v, H', J.os, J.bare, J.base, J.hok, rv, q⟩
  cases fl with
  | ret u => exact let ⟨v, σ', H', J, rv, q⟩ := hs; ends J rv q
  | next => exact let ⟨σ', H', J, q⟩ := hs; ends (v := V.non) (u := Value.none) J rfl q
  | brk => exact let ⟨_, _, _, q⟩ := hs; q.elim
  | cont => exact let ⟨_, _, _, q⟩ := hs; q.elim
end
/-- called by its name -/
structure CalG (P : Program) (w : World) (K : PySem.W.Frag) (mg : Str → Option Value) (base : Heap) (k : Nat) (x : Str) (sp : Sp) : Prop where
  ex : ∃ (f : Addr) (fd : FuncData) (ps : List Str), FnG P w K mg base k f fd ps sp ∧ mg x = some (.ref f) ∧ PySem.W.keepIn K (.ref f) = true ∧ Binds K fd ps []
section
variable {X : Cx} {k j : Nat} {x : Str} {sp : Sp} {p pos : Pos} {e : Expr} {es : List Expr} {t : TA}
theorem pe_g (c : CalG X.prog X.w X.K X.mg X.base k x sp) (hgd : X.A.guards = some []) (hr : Room j X.A) (hk : k ≤ j) (hg : Gl X x) (ha : PA X (e :: es) t)
    (hdb : (x == ("__debug__" : Str)) = false := by decide) (he : starEach (e :: es) X.env = (false, eval e X.env) :: starEach es X.env := by rfl) (hpl : (backTo pos (starEach es X.env)).any (·.1) = false := by rfl) :
    PE X (.Call (.Name x p) (e :: es) [] pos) (tCall sp [] L2.E0 t) := by
  obtain ⟨f, fd, ps, F, hm, kp, b⟩ := c.ex
  refine ⟨fun pins s σ H Q I h => ?_⟩
  refine wpAny_Call_Name_kw (ld_glob I hg hm ?_ hdb)
  refine PySem.W.callWith_K (h₀ := X.base) I.ok.mod.kin kp (thn (ha.run pos pins s σ H _ I h) fun us s1 ⟨vs, H1, I1, r, q⟩ => ⟨I1.kIn, ?_⟩) he hpl
  have q2 : sp vs H1 Q L2.E0 := by
    have z : sp (vs ++ []) H1 Q L2.E0 := q
    rw [List.append_nil] at z
    exact z
  have hl : (us ++ []).length = ps.length := by rw [List.append_nil, ← r.length]; exact F.many _ _ _ _ q2
  have hb := b s1 us I1.kIn hl
  rw [List.append_nil] at hb
  refine wpAny_call (codeAny_mono (F.goes X.A X.stack s1 H1 ⟨us, []⟩ us vs Q L2.E0 hgd (hr.mono hk) I1.env0 hb r q2) ?_)
  intro o s' hq
  cases o with
  | error e => exact hq.elim
  | ok fl =>
    cases fl with
    | ret u => exact I1.after hq
    | next => exact hq.elim
    | brk => exact hq.elim
    | cont => exact hq.elim
end
/-! ### the end of a law row whose def asks for repr -/
theorem glaw {P : Program} {w : World} {K : PySem.W.Frag} {mg mb : Str → Option Value} {k : Nat} {fa a : Addr} {fd : FuncData} {x : Str} {sp : Sp} {s₁ : Shared} {vs : List Value} {ns : List Int}
    (KX : K.In s₁.heap) (hns : s₁.heap.Ns mainGlobals mg) (hb : s₁.heap.Ns builtinsNs mb) (hbb : ∀ x : Str, x ≠ "__name__" → mb x = bootBuiltins x) (hlim : s₁.heap.NoLimit) (hg : s₁.gens = #[])
    (ha : s₁.heap.get? a = some { cls := .type "list", data := .seq vs.toArray }) (hi : IntsAre vs ns) (hl : ns.length ≤ sizeLine) (hr : Room k callerA)
    (F : ∀ base : Heap, K.In base → base.Ns mainGlobals mg → FnG P w K mg base k fa fd [x] sp) (hbind : ∀ (s : Shared) (u : Value), BindsTo s fd ⟨[u], []⟩ [(x, u)])
    (hsp : ∀ H : Hp, Only H → SqL K H a (ns.map V.int) → sp [.ref a] H (fun v _ => v = .bl true) fun _ _ _ => False) :
    codeAny (model P w) callerA (.call (.ref fa) ⟨[.ref a], []⟩) (fun r s' => r = .ok (.ret (.bool true)) ∧ OldK s₁.heap s'.heap ∧ s'.os = s₁.os ∧ AllBare s'.gens) s₁ := by
  have rv := vals_ints hi
  have heart : ∀ H : Hp, Only H → SqL K H a (ns.map V.int) → HOk P w H s₁.heap → (∀ b, H b ≠ none → b = a) → (H a ≠ none → K.lookup a = none) →
      codeAny (model P w) callerA (.call (.ref fa) ⟨[.ref a], []⟩) (fun r s' => r = .ok (.ret (.bool true)) ∧ OldK s₁.heap s'.heap ∧ s'.os = s₁.os ∧ AllBare s'.gens) s₁ := by
    intro H only hS hok hA hK
    have same : ∀ {b : Addr} {u : HO}, H b = some u → b = a := fun {b u} q => hA b (by rw [q]; exact fun z => nomatch z)
    have stays : ∀ {b : Addr} {o : Obj}, s₁.heap.get? b = some o → H b = none → (hidT s₁.heap H).get? b = some o := fun q n => hidT_get q n
    have dictOff : ∀ {b : Addr} {o : Obj} {es : Array DictEntry} {ep : Nat}, s₁.heap.get? b = some o → o.data = .dict es ep → H b = none := by
      intro b o es ep q d
      cases z : H b with
      | none => rfl
      | some u =>
        have hba := same z
        subst hba
        have eo := Option.some.inj (ha.symm.trans q)
        rw [← eo] at d
        exact nomatch d
    have nsIn : ∀ {b : Addr} {m : Str → Option Value}, s₁.heap.Ns b m → (hidT s₁.heap H).Ns b m := fun ⟨o, es, ep, q, d, r⟩ => ⟨o, es, ep, stays q (dictOff q d), d, r⟩
    have kIn : K.In (hidT s₁.heap H) := by
      intro b o q
      refine stays (KX b o q) ?_
      cases z : H b with
      | none => rfl
      | some u =>
        have hba := same z
        subst hba
        have := hK (by rw [z]; exact fun y => nomatch y)
        rw [this] at q
        exact nomatch q
    have hM : Mod K mg (hidT s₁.heap H) := by
      obtain ⟨mc, l1, l2⟩ := hlim
      exact ⟨kIn, nsIn hns, ⟨mb, nsIn hb, hbb⟩, ⟨mc, nsIn l1, l2⟩⟩
    have e0 : Env0 P w K mg (hidT s₁.heap H) callerA [] s₁ H :=
      ⟨rfl, hM, fun b o q => of_hidT q, Nat.le_of_eq (hidT_size _ _), trivial, fun b hb => absurd (show b ∈ ([] : List Addr) from hb) List.not_mem_nil, hok, .of_eq hg⟩
    refine codeAny_mono ((F _ kIn (nsIn hns)).goes callerA [] s₁ H ⟨[.ref a], []⟩ [.ref a] [.ref a] _ _ rfl hr e0 (hbind s₁ (.ref a)) (.cons rfl .nil) (hsp H only hS)) ?_
    intro r s' h
    cases r with
    | error e => exact h.elim
    | ok fl =>
      cases fl with
      | next => exact h.elim
      | brk => exact h.elim
      | cont => exact h.elim
      | ret u =>
        obtain ⟨v, H', os, bare, un, hok', rr, q⟩ := h
        have q' : v = V.bl true := q
        subst q'
        have eu : u = Value.bool true := rr
        subst eu
        refine ⟨rfl, OldK.of_keep ?_, os, bare⟩
        intro b o q
        cases z : H b with
        | none => exact un.keep b o q z (fun y => absurd (show b ∈ ([] : List Addr) from y) List.not_mem_nil) (fun y => absurd y List.not_mem_nil)
        | some u =>
          rcases only b with y | ⟨ob, xs, y⟩
          · exact nomatch (z.symm.trans y)
          · obtain ⟨e1, _⟩ := hok b _ y
            obtain ⟨e2, _⟩ := hok' b _ (un.frzs b ob _ y)
            have eo := Option.some.inj (q.symm.trans e1)
            rw [eo]
            exact e2
  cases hk : K.lookup a with
  | some o =>
    have eo := Option.some.inj ((KX a o hk).symm.trans ha)
    subst eo
    exact heart (fun _ => none) (fun _ => .inl rfl) (.inr ⟨_, vs.toArray, _, hk, rfl, rfl, rfl, by rw [List.size_toArray, hi.length]; exact hl, by simpa using rv⟩) (fun b u z => nomatch (show (none : Option HO) = some u from z)) (fun b z => absurd rfl z) (fun z => absurd rfl z)
  | none =>
    have there : ∀ b u, (if b = a then some (HO.frz { cls := .type "list", data := .seq vs.toArray } (.lst (ns.map V.int))) else none) = some u → b = a ∧ u = HO.frz { cls := .type "list", data := .seq vs.toArray } (.lst (ns.map V.int)) := by
      intro b u z
      by_cases hba : b = a
      · rw [if_pos hba] at z
        exact ⟨hba, (Option.some.inj z).symm⟩
      · rw [if_neg hba] at z
        exact nomatch z
    refine heart (fun b => if b = a then some (.frz { cls := .type "list", data := .seq vs.toArray } (.lst (ns.map V.int))) else none) ?_ (.inl (.inr ⟨{ cls := .type "list", data := .seq vs.toArray }, if_pos rfl⟩)) ?_ ?_ (fun _ => hk)
    · intro b
      by_cases hba : b = a
      · exact .inr ⟨_, _, if_pos hba⟩
      · exact .inl (if_neg hba)
    · intro b u z
      obtain ⟨e1, e2⟩ := there b u z
      subst e1
      subst e2
      exact ⟨ha, by rw [List.length_map]; exact hl, vs, _, rv, ha⟩
    · intro b z
      by_cases hba : b = a
      · exact hba
      · exact absurd (if_neg hba) z
theorem gwalk {l : PySem.W.OpenLaw} {n k : Nat} {q : Program} {loose : List Str} {XP : (Str → Option Value) → Heap → Prop} {YP : World → Heap → Prop} {d : DefRec} {K : Params → PySem.W.Frag} {sp : World → Sp} {x : Str}
    (hn : l.most = some n) (hn2 : n ≤ sizeLine) (hdf : d.params.defaults = []) (hr : Room k callerA) (hY : ∀ (w : World) (h : Heap), YP w h → (K w.params).In h)
    (F : ∀ (w : World) (mg : Str → Option Value) (fa : Addr) (h : Heap), (K w.params).In h → h.Ns mainGlobals mg → mg d.name = some (.ref fa) →
      ∃ fd : FuncData, (∀ (s : Shared) (u : Value), BindsTo s fd ⟨[u], []⟩ [(x, u)]) ∧ ∀ base : Heap, (K w.params).In base → base.Ns mainGlobals mg → FnG l.prog w (K w.params) mg base k fa fd [x] (sp w))
    (hsp : ∀ (w : World) (H : Hp) (a : Addr) (ns : List Int), ns.length ≤ n → Only H → SqL (K w.params) H a (ns.map V.int) → sp w [.ref a] H (fun v _ => v = .bl true) fun _ _ _ => False) :
    PySem.W.WalkO q loose XP YP l.row.toRowW d [] (fun f vs => PySem.call f vs) := by
  refine Att.attach_call hn hdf ?_
  intro w s₀ s₁ mg mb fa o pm cd doc a vs ns G Y ho hd hcd hmg hobj hints hlen hg
  have KX := hY w _ Y
  obtain ⟨fd, hb, hF⟩ := F w mg fa _ KX G.T.g hmg
  exact glaw KX G.T.g G.T.b G.T.builtins G.T.nolimit hg hobj hints (Nat.le_trans hlen hn2) hr hF hb (fun H only hS => hsp w H a ns hlen only hS)
end Ft

set_option Elab.async false
set_option linter.all false
set_option maxRecDepth 100000
set_option maxHeartbeats 4000000
namespace Ft
open PySem PySem.Spec PyProof.Rows L2
/-! ### set(xs), xs a list of ints -/
/-- an empty set, as it is made -/
abbrev bareSet (w : World) : Obj := { cls := .type "set", dict := none, data := .set #[] 0 (.fresh 0 0 (!w.params.followText "set-order")) }
section
variable {P : Program} {w : World} {A : Around} {E : Value → Shared → Prop} {s : Shared}
set_option maxRecDepth 100000 in
theorem set_of_list {l : Addr} {its : Array Value} (ns : List Int) {Q : Value → Shared → Prop} (calm : A.handled = none) (isl : s.heap.IsList l its) (pIs : IntsAre its.toList ns) (few : ns.length + 1 < scanBound)
    (done : ∀ (h' : Heap) (tk c : Nat), SetR w h' s.heap.objs.size (fun j => decide (j ∈ ns)) c → c ≤ ns.length → (∀ b o, s.heap.get? b = some o → h'.get? b = some o) → Q (.ref s.heap.objs.size) { s with heap := h', toks := tk }) :
    wpAny (model P w) A (call (.type "set") [.ref l]) Q E s := by
  have size : its.size = ns.length := by rw [← IntsAre.length pIs, Array.length_toList]
  obtain ⟨c, tl, way⟩ := F.called_set.mro
  have made := F.called_set.made
  have under := F.called_set.sub
  refine wpAny_call (codeAny_of_tree ?_)
  show wpAny _ _ (callAny (.type "set") _) _ _ _
  refine wpAny_pure (And.intro (Code.quiet_builtin _ (by decide +kernel)) (codeAny_builtin F.entry_type_call ?_))
  rw [Around.under_plain (weight_type_call_type "set" [Value.ref l] []) rfl]
  have k1 := F.called_set.notType
  have k2 := F.called_set.canCreate
  have k3 := F.typeCall_set_1 (Value.ref l)
  repeat (any_goals (first | assumption | wp_step))
  refine codeAny_mono (code_set_led1 (.ref l) (E := E) (Q₁ := fun obj t => obj = .ref s.heap.objs.size ∧ t = { s with heap := s.heap.push (bareSet w) }) ⟨rfl, rfl⟩) fun r t ht => ?_
  match r, ht with
  | .error e, ht => exact ht
  | .ok .next, ht => exact ht
  | .ok .brk, ht => exact ht
  | .ok .cont, ht => exact ht
  | .ok (.ret obj), ht =>
    obtain ⟨e1, e2⟩ := ht
    subst e1 e2
    have atS : (s.heap.push (bareSet w)).get? s.heap.objs.size = some (bareSet w) := Heap.get?_push_size _ rfl
    have tyS : Shared.TypeIs { s with heap := s.heap.push (bareSet w) } (.ref s.heap.objs.size) "set" := ⟨_, atS, rfl⟩
    have look := F.called_set.init.lookup
    have binds := F.called_set.init.bind (.ref s.heap.objs.size)
    repeat (any_goals (first | assumption | wp_step))
    refine codeAny_mono (codeAny_call_builtin (R := wants (fun r u => r = .none ∧ ∃ h' tk c, u = { s with heap := h', toks := tk } ∧ SetR w h' s.heap.objs.size (fun j => decide (j ∈ ns)) c ∧ c ≤ ns.length ∧ (∀ b o, s.heap.get? b = some o → h'.get? b = some o)) E)
      F.called_set.init.plain F.entry_set_init (check_set_init_1 tyS ?_)) fun r2 u hu => ?_
    · obtain ⟨⟨oc, od, dat, osl⟩, hol, hcl, nl, hdl⟩ := isl
      simp only at hcl hdl
      subst hcl hdl
      have atL : (s.heap.push (bareSet w)).get? l = some { cls := .type "list", dict := od, data := .seq its nl, slots := osl } := Heap.get?_push_of_some _ hol
      have q1 := F.sub_list_set
      have q2 := F.sub_list_frozenset
      have q3 : (Value.type "list" == Value.type "dict") = false := by decide
      have isl1 : (s.heap.push (bareSet w)).IsList l its := ⟨_, atL, rfl, nl, rfl⟩
      unfold Builtin.«set.__init__» noKeywords Builtin.Frozenset.updateFrom
      generalize hit : pyIter = it
      wp_walk
      subst hit
      refine wpAny_pyIter_list isl1 ?_
      refine wpAny_bind (wpAny_runValue ?_)
      have below : l < s.heap.objs.size := Heap.lt_size hol
      have calm3 : A.in1.in1.in1.handled = none := by simp [calm]
      have apart : l ≠ (s.heap.push (bareSet w)).objs.size := by
        rw [Heap.size_push]
        exact Nat.ne_of_lt (Nat.lt_succ_of_lt below)
      have apartS : s.heap.objs.size ∉ [(s.heap.push (bareSet w)).objs.size, l] := by
        rw [Heap.size_push]
        simp only [List.mem_cons, List.mem_singleton, List.not_mem_nil, or_false, not_or]
        exact And.intro (Nat.ne_of_lt (Nat.lt_succ_self _)) (Nat.ne_of_gt below)
      have vals : ∀ (i : Nat) (v : Value), its[i]? = some v → ∃ k t, ns[i]? = some k ∧ v = .int k t := by
        intro i v hv
        have hi : i < ns.length := by
          rw [← size]
          exact (Array.getElem?_eq_some_iff.mp hv).1
        obtain ⟨t, e⟩ := PyProof.Rows.IntsAre.int_at pIs i v (by rw [Array.getElem?_toList]; exact hv)
        refine ⟨ns[i], t, List.getElem?_eq_getElem hi, ?_⟩
        rw [e, List.getD_eq_getElem?_getD, List.getElem?_eq_getElem hi]
        rfl
      refine set_update_ints ((Walks.list calm3 _ l apart its).toS) s.heap.objs.size apartS ns size few vals (its.size - 0) 0 _ (by omega) (Nat.zero_le _) ⟨⟨_, Heap.get?_push_size _ rfl, rfl, rfl⟩, isl1.push _⟩ ?start ?ends
      case start =>
        exact ⟨0, Nat.le_refl 0, setR_new_at (Heap.get?_push_of_some _ atS)⟩
      case ends =>
        intro v c' hm hc' hS'
        obtain ⟨h', g2, d', tk', os'⟩ := v
        have eg : g2 = s.gens := hm.gens
        have ed : d' = s.drawn := hm.drawn
        have eo : os' = s.os := hm.os
        subst eg ed eo
        show wpAny _ _ _ _ _ _
        refine wpAny_pure ?_
        show wpAny _ _ (ret Value.none) _ _ _
        rw [size] at hc'
        refine wpAny_pure ⟨rfl, h', tk', c', rfl, hS', hc', ?_⟩
        intro b o e
        have hb0 : b < s.heap.objs.size := Heap.lt_size e
        refine hm.heap b o ?_ (Heap.get?_push_of_some _ (Heap.get?_push_of_some _ e))
        rw [Heap.size_push]
        simp only [List.mem_cons, List.mem_singleton, List.not_mem_nil, or_false, not_or]
        exact And.intro (Nat.ne_of_lt hb0) (Nat.ne_of_lt (Nat.lt_succ_of_lt hb0))
    · match r2, hu with
      | .error e, hu => exact hu
      | .ok .next, hu => exact hu
      | .ok .brk, hu => exact hu
      | .ok .cont, hu => exact hu
      | .ok (.ret u0), hu =>
        obtain ⟨e1, h', tk, c2, e2, hS, hc2, hk⟩ := hu
        subst e1 e2
        repeat (any_goals (first | assumption | wp_step))
        exact done h' tk c2 hS hc2 hk
/-- set(xs) over the layer: a list or a tuple of ints -/
def rSetI (K : PySem.W.Frag) (w : World) : List V → Hp → VK → Prop := fun xs H Q => ∃ (l : Addr) (ns : List Int), xs = [V.ref l] ∧ (SqL K H l (ns.map V.int) ∨ SqT K H l (ns.map V.int)) ∧ ns.length ≤ 1000 ∧
  ∀ (p : Addr) (n : Nat), H p = none → n ≤ ns.length → Q (.ref p) (upd H p (SetO w p (fun j => decide (j ∈ ns)) n))
theorem cr_setI {X : Cx} (hc : X.calm = true) : CallR X (.type "set") (rSetI X.K X.w) := by
  intro pins s σ H xs us Q I r h
  obtain ⟨l, ns, rfl, hl, few, q⟩ := h
  have few1 : ns.length + 1 < scanBound := Nat.lt_of_le_of_lt (Nat.succ_le_succ few) (by decide)
  have free : H s.heap.objs.size = none := I.hok.fresh (Nat.le_refl _)
  rw [Vals.ref1 r]
  rcases hl with hl | hl
  · obtain ⟨its, rv, pl, hz⟩ := I.list hl
    refine set_of_list ns (I.ok.hd hc) pl.isList (by simpa using rv.ints) few1 fun h' tk c hS hc2 hk => ?_
    exact ⟨.ref _, upd H s.heap.objs.size (SetO X.w s.heap.objs.size (fun j => decide (j ∈ ns)) c), I.laid (t' := tk) hk (Nat.le_refl _) (setO_new hS), rfl, q _ _ free hc2⟩
  · obtain ⟨its, rv, pt, hz⟩ := I.tuple hl
    have pt2 : s.heap.IsTuple l its.toArray := pt
    refine call_set_tupI ns (I.ok.hd hc) pt2 (by simpa using ints_of_vals rv) few1 fun h' tk c hS hc2 hk => ?_
    exact ⟨.ref _, upd H s.heap.objs.size (SetO X.w s.heap.objs.size (fun j => decide (j ∈ ns)) c), I.laid (t' := tk) hk (Nat.le_refl _) (setO_new hS), rfl, q _ _ free hc2⟩
end
end Ft

set_option Elab.async false
set_option linter.all false
set_option maxRecDepth 100000
set_option maxHeartbeats 4000000
namespace Ft
open PySem PySem.Spec PyProof.Rows L2
/-! ### sorted of tuples of ints, whatever their lengths -/
abbrev Row := Addr × List Int
def leR (p q : Row) : Bool := decide (p.2 ≤ q.2)
def encR (p : Row) : PyData := .tuple (p.2.map .int)
theorem leR_is : PySem.W.dataLe false encR = leR := by
  funext p q
  show (!PySem.W.dataLt (.tuple (q.2.map .int)) (.tuple (p.2.map .int))) = decide (p.2 ≤ q.2)
  rw [PySem.W.dataLt_tuple]
  have e := PySem.W.dataLt_ints q.2 p.2
  unfold PySem.W.rowLt at e
  rw [e]
  by_cases h : q.2 < p.2
  · have h' : ¬ p.2 ≤ q.2 := fun r => List.not_lt.mpr r h
    simp [h, h']
  · have h' : p.2 ≤ q.2 := List.not_lt.mp h
    simp [h, h']
theorem leR_trans (a b c : Row) (h1 : leR a b = true) (h2 : leR b c = true) : leR a c = true :=
  decide_eq_true (List.le_trans (of_decide_eq_true h1) (of_decide_eq_true h2))
theorem leR_total (a b : Row) : (leR a b || leR b a) = true := by
  rcases List.le_total a.2 b.2 with h | h
  · simp [leR, h]
  · simp [leR, h]
theorem rows_alike (L : List Row) : PySem.W.AllAlike (L.map encR) :=
  PySem.W.AllAlike.of fun b b' => by
    show PySem.W.alike (.tuple (b.2.map .int)) (.tuple (b'.2.map .int)) = true
    simp only [PySem.W.alike]
    exact PySem.W.alike_ints _ _
theorem rows_sortable {L : List Row} (h : ∀ p ∈ L, p.2 ≠ []) : PySem.W.Sortable (L.map encR) := .inl fun d hd => by
  obtain ⟨b, hb, rfl⟩ := List.mem_map.mp hd
  have := h b hb
  show ∃ x r, PyData.tuple (b.2.map .int) = .tuple (x :: r)
  cases e : b.2 with
  | nil => exact absurd e this
  | cons x r => exact ⟨.int x, r.map .int, rfl⟩
theorem rows_deep {A : Around} {k : Nat} {L : List Row} (hu : A.units + k + 1 < cLine) : ∀ b, b ∈ L → A.units + k + (encR b).depth < cLine := by
  intro b _
  have e : (encR b).depth = 1 := by
    show PyData.depth (.tuple (b.2.map .int)) = 1
    simp only [PyData.depth, PySem.W.depth_ints]
  rw [e]
  exact hu
theorem rows_each : ∀ (L : List Row), PySem.W.EachIs (fun v (p : Row) => v = Value.ref p.1) (L.map fun p => Value.ref p.1) L
  | [] => .nil
  | p :: L => .cons rfl (rows_each L)
theorem rows_back : ∀ {vs : List Value} {L : List Row}, PySem.W.EachIs (fun v (p : Row) => v = Value.ref p.1) vs L → vs = L.map fun p => Value.ref p.1
  | _, _, .nil => rfl
  | _, _, .cons h t => by rw [h, rows_back t]; rfl
section
variable {X : Cx} {pins : List (Addr × Obj)} {σ : L2.St} {H : Hp} {s : Shared}
theorem dpAll_ints {K : PySem.W.Frag} {H : Hp} : ∀ ns : List Int, DpAll K H (ns.map V.int) (ns.map PyData.int)
  | [] => .nil
  | n :: ns => .cons (.int n) (dpAll_ints ns)
theorem rows_read (I : Inv X pins σ H s) : ∀ (L : List Row), (∀ p ∈ L, SqT X.K H p.1 (p.2.map V.int)) → PySem.W.EachIs (fun v b => ∃ as, Reads s.heap v (encR b) as) (L.map fun p => Value.ref p.1) L
  | [], _ => .nil
  | p :: L, h => .cons (Dp.reads I (encR p) (.ref p.1) (.ref p.1) (.tup (h p List.mem_cons_self) (dpAll_ints p.2)) rfl) (rows_read I L fun q hq => h q (List.mem_cons_of_mem _ hq))
end
/-- sorted(xs), xs a list of tuples of ints -/
def rSortedR (K : PySem.W.Frag) : List V → Hp → VK → Prop := fun vs H Q => ∃ (a : Addr) (L : List Row), vs = [V.ref a] ∧ SqL K H a (L.map fun p => V.ref p.1) ∧ (∀ p ∈ L, SqT K H p.1 (p.2.map V.int)) ∧ (∀ p ∈ L, p.2 ≠ []) ∧
  ∀ p, H p = none → Q (.ref p) (upd H p (.lst ((L.mergeSort leR).map fun p => V.ref p.1)))
theorem cr_sortedR {X : Cx} (hu : X.A.units + 64 < cLine) : CallR X (.builtin "sorted") (rSortedR X.K) := by
  intro pins s σ H xs us Q I r h
  obtain ⟨a, L, rfl, hl, hk, hne, q⟩ := h
  rw [Vals.ref1 r]
  obtain ⟨its, rv, pl, hz⟩ := I.list hl
  have ei : its = L.map fun p => Value.ref p.1 := refs_of_vals rv
  subst ei
  have hz2 : L.length ≤ sizeLine := by simpa using hz
  refine PySem.W.sorted_data (bs := L) (enc := encR) pl.isList (rows_each L) (rows_read I L hk) (rows_alike L) (rows_sortable hne) hz2 (rows_deep (k := 2) (by omega)) fun out hlen he => ?_
  rw [leR_is] at he
  have eo := rows_back he
  subst eo
  obtain ⟨ep, ho⟩ := PyProof.Rows.sortedAll_at s.heap (L.map fun p => Value.ref p.1) ((L.mergeSort leR).map fun p => Value.ref p.1).toArray
  refine ⟨.ref _, upd H (s.heap.objs.size + 1) (.lst ((L.mergeSort leR).map fun p => V.ref p.1)), I.laid (t' := s.toks) (fun _ _ => PyProof.Rows.sortedAll_old) (Nat.le_succ _) ⟨?_, _, ep, vals_of_refs _, ho⟩, rfl, q _ (I.hok.fresh (Nat.le_succ _))⟩
  rw [List.length_map, List.length_mergeSort]
  exact hz2
/-- sorted of a set of tuples of ints -/
theorem rows_order {L : List Row} : ∀ {vs : List Value}, (∀ v ∈ vs, ∃ q ∈ L, v = Value.ref q.1) → ∃ L1 : List Row, vs = L1.map (fun q => Value.ref q.1) ∧ ∀ q ∈ L1, q ∈ L
  | [], _ => ⟨[], rfl, fun q hq => nomatch hq⟩
  | v :: vs, h => by
    obtain ⟨q, hq, e⟩ := h v List.mem_cons_self
    obtain ⟨L1, e1, h1⟩ := rows_order (vs := vs) fun u hu => h u (List.mem_cons_of_mem _ hu)
    refine ⟨q :: L1, by rw [e, e1]; rfl, fun r hr => ?_⟩
    cases hr with
    | head => exact hq
    | tail _ z => exact h1 r z
section
variable {P : Program} {w : World} {A : Around} {E : Value → Shared → Prop} {s : Shared}
theorem nodup_back {α β : Type} {f : α → β} : ∀ {l : List α}, (l.map f).Nodup → l.Nodup
  | [], _ => List.nodup_nil
  | a :: l, h => by
    obtain ⟨h1, h2⟩ := List.nodup_cons.mp h
    exact List.nodup_cons.mpr ⟨fun z => h1 (List.mem_map.mpr ⟨a, z, rfl⟩), nodup_back h2⟩
theorem sorted_rows {a : Addr} {L : List Row} {es : Array (Int × Value)} {ep : Nat} {t : SetTable} {Q : Value → Shared → Prop} (R : SetTR P w s.heap a L es ep t) (hh : A.handled = none) (hu : A.units + 64 < cLine) (hne : ∀ p ∈ L, p.2 ≠ [])
    (rd : ∀ p ∈ L, ∃ as, Reads s.heap (.ref p.1) (encR p) as)
    (done : ∀ s' p (c : Nat) (L' : List Row), (∀ b o, s.heap.get? b = some o → s'.heap.get? b = some o) → s'.gens = s.gens → s'.os = s.os → s.heap.objs.size ≤ p →
      s'.heap.get? p = some (seqObj "list" (L'.map fun q => Value.ref q.1).toArray c) → L'.Perm L → L'.Pairwise (fun q r => q.2 ≤ r.2) → Q (.ref p) s') :
    wpAny (model P w) A (call (.builtin "sorted") [.ref a]) Q E s := by
  obtain ⟨o, ho, hex, hd⟩ := R.ob
  have size := R.size
  have few := R.few
  refine Calls.call_function_entry kind_sorted plain_sorted entry_sorted (args_sorted1 _) ?_
  unfold Builtin.«sorted»
  refine wpAny_bind (m := checkCount "sorted" 1 1 _) (wpAny_pure ?_)
  refine wpAny_bind (collect_set (A := A.in1) hh ⟨o, ho, hex.1, hd⟩ R.fits (by rw [size]; exact Nat.lt_trans few (by decide)) R.tab.ris R.led fun s1 vs k1 hz g1 o1 pm => ?_)
  have rows : es.toList.map (·.2) = L.map fun q => Value.ref q.1 := by
    rw [R.rows]
    unfold rowsOf
    rw [List.map_map]
    rfl
  rw [rows] at pm
  obtain ⟨L1, e1, sub1⟩ := rows_order (L := L) (vs := vs) fun v hv => by
    obtain ⟨q, hq, e⟩ := List.mem_map.mp (pm.mem_iff.mp hv)
    exact ⟨q, hq, e.symm⟩
  have apart : ∀ q ∈ L, ∀ r ∈ L, q.1 = r.1 → q = r := by
    intro q hq r hr e
    have t1 := R.tup q hq
    have t2 := R.tup r hr
    rw [e] at t1
    exact Prod.ext e (t1.inj t2)
  have pm1 : L1.Perm L := by
    have nL : L.Nodup := nodup_back R.nd
    have nR : (L.map fun q => Value.ref q.1).Nodup := by
      refine List.pairwise_map.mpr (List.Pairwise.imp_of_mem (fun {q r} hq hr hn e => ?_) nL)
      injection e with e
      exact hn (apart q hq r hr e)
    rw [e1] at pm
    refine (List.perm_ext_iff_of_nodup (nodup_back (pm.nodup_iff.mpr nR)) nL).mpr fun q => ⟨sub1 q, fun hq => ?_⟩
    obtain ⟨r, hr, e⟩ := List.mem_map.mp (pm.mem_iff.mpr (List.mem_map.mpr ⟨q, hq, rfl⟩))
    injection e with e
    rw [← apart r (sub1 r hr) q hq e]
    exact hr
  subst e1
  have len1 : L1.length < 64 := by rw [pm1.length_eq]; exact few
  have line1 : L1.length ≤ sizeLine := by rw [sizeLine_eq]; omega
  refine wpAny_bind (wpAny_newList ?_ (by simpa using line1))
  have hoL : (s1.heap.push (seqObj "list" (L1.map fun q => Value.ref q.1).toArray 0)).get? s1.heap.objs.size = some (seqObj "list" (L1.map fun q => Value.ref q.1).toArray 0) := Heap.get?_push_size _ rfl
  have er : ∀ (M : List Row), (∀ q ∈ M, q ∈ L) → PySem.W.EachIs (fun v b => ∃ as, Reads (s1.heap.push (seqObj "list" (L1.map fun q => Value.ref q.1).toArray 0)) v (encR b) as ∧ s1.heap.objs.size ∉ as) (M.map fun p => Value.ref p.1) M := by
    intro M
    induction M with
    | nil => intro _; exact .nil
    | cons p M ih =>
      intro hM
      obtain ⟨as, r0⟩ := rd p (hM p List.mem_cons_self)
      have r1 := PyProof.Rows.Reads.keeps (h' := s1.heap.push (seqObj "list" (L1.map fun q => Value.ref q.1).toArray 0)) (fun b u e => Heap.get?_push_of_some _ (k1 b u e)) r0
      refine .cons ⟨as, r1, ?_⟩ (ih fun q hq => hM q (List.mem_cons_of_mem _ hq))
      have flat : ∀ {h : Heap} {ns : List Int} {us : List Value} {bs : List Addr}, ReadsAll h us (ns.map PyData.int) bs → bs = [] := by
        intro h ns
        induction ns with
        | nil => intro us bs z; cases z; rfl
        | cons n ns ih2 =>
          intro us bs z
          cases z with
          | cons z1 z2 =>
            cases z1
            rw [ih2 z2]
            rfl
      have e0 : as = [] := by
        cases r0 with
        | tuple _ _ _ z => exact flat z
      rw [e0]
      exact List.not_mem_nil
  refine wpAny_bind (wpAny_holding (PySem.W.list_sort_data (s := { s1 with heap := s1.heap.push (seqObj "list" (L1.map fun q => Value.ref q.1).toArray 0) }) (R := fun v (p : Row) => v = Value.ref p.1) (bs := L1) (enc := encR) hoL (rows_each L1) (er L1 sub1) (rows_alike L1)
    (rows_sortable fun p hp => hne p (sub1 p hp)) line1 (rows_deep (k := 1) (by show A.units + 1 + 1 + 1 < cLine; omega)) fun out hlen he => ?_))
  rw [leR_is] at he
  have eo := rows_back he
  subst eo
  obtain ⟨c, hc⟩ := sortedHeap_at (vs := L1.map fun q => Value.ref q.1) (out := ((L1.mergeSort leR).map fun q => Value.ref q.1).toArray) hoL
  refine wpAny_pure ⟨_, rfl, done _ s1.heap.objs.size c (L1.mergeSort leR) (fun b u e => ?_) g1 o1 hz hc ((List.mergeSort_perm L1 leR).trans pm1) ?_⟩
  · have q := k1 b u e
    have hlt := Heap.lt_size q
    show (sortedHeap (s1.heap.push (seqObj "list" (L1.map fun q => Value.ref q.1).toArray 0)) s1.heap.objs.size (L1.map fun q => Value.ref q.1) _).get? b = some u
    rw [sortedHeap_old (Nat.ne_of_lt hlt) (by rw [size_push']; exact Nat.lt_succ_of_lt hlt)]
    exact Heap.get?_push_of_some _ q
  · exact (List.pairwise_mergeSort leR_trans leR_total L1).imp fun h => of_decide_eq_true h
end
/-- sorted(set), any tuples of ints -/
def rSortedS (K : PySem.W.Frag) (P : Program) (w : World) : List V → Hp → VK → Prop := fun vs H Q => ∃ (a : Addr) (L : List Row), vs = [V.ref a] ∧ H a = some (SetTO P w a L) ∧ (∀ p ∈ L, SqT K H p.1 (p.2.map V.int)) ∧ (∀ p ∈ L, p.2 ≠ []) ∧
  ∀ (L' : List Row) (p : Addr), L'.Perm L → (L'.map (·.2)).Nodup → L'.length < 64 → L'.Pairwise (fun q r => q.2 ≤ r.2) → H p = none → Q (.ref p) (upd H p (.lst (L'.map fun q => V.ref q.1)))
theorem cr_sortedSR {X : Cx} (hc : X.calm = true) (hu : X.A.units + 64 < cLine) : CallR X (.builtin "sorted") (rSortedS X.K X.prog X.w) := by
  intro pins s σ H xs us Q I r h
  obtain ⟨a, L, rfl, ha, hk, hne, q⟩ := h
  obtain ⟨es, ep, t, R⟩ := SetT0.full (I.hok a _ ha).1 fun p hp => I.isT (hk p hp)
  rw [Vals.ref1 r]
  refine sorted_rows R (I.ok.hd hc) hu hne (fun p hp => Dp.reads I (encR p) (.ref p.1) (.ref p.1) (.tup (hk p hp) (dpAll_ints p.2)) rfl) fun s' p c L' k g o hp hg pm pw => ?_
  have few : L'.length < 64 := by rw [pm.length_eq]; exact R.few
  have line : (L'.map fun q => V.ref q.1).length ≤ sizeLine := by rw [List.length_map, sizeLine_eq]; omega
  have free : H p = none := I.hok.fresh hp
  have J : Inv X pins σ (upd H p (.lst (L'.map fun q => V.ref q.1))) s' := I.call' (s' := s') (ch := []) o (Un.laid k hp free) (I.hok.laid k hp ⟨line, _, c, vals_of_refs L', hg⟩) (by rw [g]; exact I.bare) (fun _ z => nomatch z)
  exact ⟨.ref p, _, J, rfl, q L' p pm ((pm.map (·.2)).nodup_iff.mpr R.nd) few pw free⟩
end Ft

set_option Elab.async false
set_option linter.all false
set_option maxRecDepth 100000
set_option maxHeartbeats 4000000
namespace Ft
open PySem PySem.Spec PyProof.Rows L2
/-! ### a def that may be called by its name -/
structure Cal (P : Program) (w : World) (K : PySem.W.Frag) (mg : Str → Option Value) (base : Heap) (k : Nat) (x : Str) (sp : Sp) : Prop where
  ex : ∃ (f : Addr) (fd : FuncData) (ps : List Str), FnOk P w K mg base L2.CX0 k f fd ps sp ∧ mg x = some (.ref f) ∧ PySem.W.keepIn K (.ref f) = true ∧ Binds K fd ps []
theorem pe_c {X : Cx} {k j : Nat} {x : Str} {sp : Sp} {p pos : Pos} {e : Expr} {es : List Expr} {t : TA} (c : Cal X.prog X.w X.K X.mg X.base k x sp) (hr : Room j X.A) (hk : k ≤ j) (hg : Gl X x) (ha : PA X (e :: es) t)
    (hdb : (x == ("__debug__" : Str)) = false := by decide) (he : starEach (e :: es) X.env = (false, eval e X.env) :: starEach es X.env := by rfl) (hpl : (backTo pos (starEach es X.env)).any (·.1) = false := by rfl) :
    PE X (.Call (.Name x p) (e :: es) [] pos) (tCall sp [] L2.E0 t) := by
  obtain ⟨f, fd, ps, F, hm, kp, b⟩ := c.ex
  exact pe_call F (hr.mono hk) hg hm kp b .nil L2.pass0 ha hdb he hpl
/-- a def of the module as it stands behind the top, under its name -/
structure Def (K : PySem.W.Frag) (mg : Str → Option Value) (x : Str) (st : Stmt) : Prop where
  ex : ∃ (f : Addr) (fd : FuncData), L2.Fun K x x st f fd ∧ mg x = some (.ref f)
theorem cal_of {P : Program} {w : World} {K : PySem.W.Frag} {mg : Str → Option Value} {base : Heap} {x : Str} {st : Stmt} {N ps : List Str} {k : Nat} {sp : Sp} (D : Def K mg x st) (S : FnScope N ps (L2.defScope st))
    (bd : ∀ (kV doc pm : Value) (an : Option Addr) (cdv ct : Value) (us : List Value), us.length = ps.length → bindArgs (PySem.W.fnOf x x (L2.defArgs st) (L2.defBody st) (L2.defScope st) .none kV doc pm an cdv ct) ⟨us, []⟩ = pure (ps.zip us))
    (len : ∀ vs H Q E, sp vs H Q E → vs.length = ps.length)
    (body : ∀ (f : Addr) (cdv : Value) (A : Around) (outer : List Env) (s : Shared) (H : Hp) (vs : List V) (Q : VK) (E : XK), Room k (A.deeper (envOfC x (L2.defScope st) s.heap.objs.size f cdv)) → sp vs H Q E →
      ∃ t, PSs (cxOf L2.CX0 P w K mg base N x (L2.defScope st) f cdv A outer s H E).nox (L2.defBody st) t ∧ t { nx := fun _ H' => Q .non H', rt := Q } (start N vs) H) : Cal P w K mg base (k + 1) x sp := by
  obtain ⟨f, fd, F, hm⟩ := D.ex
  exact ⟨f, fd, ps, F.ok S len (body f), hm, F.kp, F.binds bd⟩
theorem calG_of {P : Program} {w : World} {K : PySem.W.Frag} {mg : Str → Option Value} {base : Heap} {x : Str} {st : Stmt} {N ps : List Str} {k : Nat} {sp : Sp} (D : Def K mg x st) (S : FnScope N ps (L2.defScope st))
    (bd : ∀ (kV doc pm : Value) (an : Option Addr) (cdv ct : Value) (us : List Value), us.length = ps.length → bindArgs (PySem.W.fnOf x x (L2.defArgs st) (L2.defBody st) (L2.defScope st) .none kV doc pm an cdv ct) ⟨us, []⟩ = pure (ps.zip us))
    (len : ∀ vs H Q E, sp vs H Q E → vs.length = ps.length)
    (body : ∀ (f : Addr) (cdv : Value) (A : Around) (out : List Env) (s : Shared) (H : Hp) (vs : List V) (Q : VK) (E : XK), A.guards = some [] → Room k (A.deeper (envOfC x (L2.defScope st) s.heap.objs.size f cdv)) → sp vs H Q E →
      ∃ t, PSs (cxOf L2.CX0 P w K mg base N x (L2.defScope st) f cdv A out s H E).nox (L2.defBody st) t ∧ t { nx := fun _ H' => Q .non H', rt := Q } (start N vs) H) : CalG P w K mg base (k + 1) x sp := by
  obtain ⟨f, fd, F, hm⟩ := D.ex
  exact ⟨f, fd, ps, gfun F S len (body f), hm, F.kp, F.binds bd⟩

/-! ### enumerate(tuple) -/
theorem enum_newT (l : Addr) (items : Array Value) (n : Nat) (dct : Option Addr) (sl : Array (Option Value)) :
    Meets (Builtin.«enumerate.__new__» ⟨[.type "enumerate", .ref l], []⟩) (fun _ R s => s.heap.get? l = some { cls := .type "tuple", dict := dct, data := .seq items n, slots := sl } ∧
      R (.ok (.ret (.ref (s.heap.push { cls := .type "tuple_iterator", data := .fields #[.ref l, .int 0 0] }).objs.size)))
        { s with heap := (s.heap.push { cls := .type "tuple_iterator", data := .fields #[.ref l, .int 0 0] }).push { cls := .type "enumerate", data := .fields #[.none, .bool false, .ref s.heap.objs.size, rawInt 0, .none, .none] } }) :=
  .of_wp fun prog w A R s h => by
    obtain ⟨hp, g, d, tk, os⟩ := s
    obtain ⟨hl, h⟩ := h
    have sub := sub_enumerate
    have tup : Heap.IsTuple (Shared.heap ⟨hp, g, d, tk, os⟩) l items := ⟨_, hl, rfl, n, rfl⟩
    wp_walk using PySem.AutoSeq1.wpAny_loadPart' hl
    refine wpAny_stack_any fun st => wpAny_pure ?_
    split
    · rename_i c _ _ _ _ _
      cases (c == Value.type "enumerate")
      · wp_walk using PySem.AutoSeq1.wpAny_loadPart' hl, wpAny_pyIter_tuple tup
        exact ⟨_, rfl, h⟩
      · wp_walk using PySem.AutoSeq1.wpAny_loadPart' hl, wpAny_pyIter_tuple tup
        exact ⟨_, rfl, h⟩
    · wp_walk using PySem.AutoSeq1.wpAny_loadPart' hl, wpAny_pyIter_tuple tup
      exact ⟨_, rfl, h⟩
theorem enum_tuple {prog : Program} {w : World} {A : Around} {E : Value → Shared → Prop} {s : Shared} {l : Addr} {items : Array Value} {Q : Value → Shared → Prop} (hL : s.heap.IsTuple l items)
    (h : ∀ h', IsEnum h' (s.heap.objs.size + 1) s.heap.objs.size 0 .none → h'.IsTupleIter s.heap.objs.size l 0 → h'.objs.size = s.heap.objs.size + 2 → (∀ b o, s.heap.get? b = some o → h'.get? b = some o) → Q (.ref (s.heap.objs.size + 1)) { s with heap := h' }) :
    wpAny (model prog w) A (call (.type "enumerate") [.ref l]) Q E s := by
  obtain ⟨⟨c, dct, dt, sl⟩, hl, hc, n, hd⟩ := hL
  replace hc : c = .type "tuple" := hc
  replace hd : dt = .seq items n := hd
  subst hc hd
  refine callType_new F.called_enumerate (by decide) (F.typeCall_enumerate_1 _) (F.newCall_enumerate_1 _) (fun obj => F.args_object_init_2 obj _) F.entry_enumerate_new (enum_newT l items n dct sl) ⟨hl, ?_⟩
  have hz : (s.heap.push { cls := .type "tuple_iterator", data := .fields #[.ref l, .int 0 0] }).objs.size = s.heap.objs.size + 1 := Heap.size_push ..
  show _ ∧ _
  rw [hz]
  have he : IsEnum ((s.heap.push { cls := .type "tuple_iterator", data := .fields #[.ref l, .int 0 0] }).push { cls := .type "enumerate", data := .fields #[.none, .bool false, .ref s.heap.objs.size, rawInt 0, .none, .none] }) (s.heap.objs.size + 1) s.heap.objs.size 0 .none := by
    have q := Heap.get?_push_size (s.heap.push { cls := .type "tuple_iterator", data := .fields #[.ref l, .int 0 0] }) (o := { cls := .type "enumerate", data := .fields #[.none, .bool false, .ref s.heap.objs.size, rawInt 0, .none, .none] }) rfl
    rw [hz] at q
    exact q
  exact ⟨⟨_, he, rfl⟩, h _ he ⟨_, Heap.get?_push_of_some _ (Heap.get?_push_size _ rfl), rfl, rfl⟩ (by rw [Heap.size_push, hz]) fun b o x => Heap.get?_push_of_some _ (Heap.get?_push_of_some _ x)⟩
def IteT (K : PySem.W.Frag) (a : Addr) : It :=
  ⟨fun i H => ∃ (xs : List V) (x : V), SqT K H a xs ∧ xs[i]? = some x, fun i H v H' => ∃ T x, v = .ref T ∧ H T = none ∧ H' = upd H T (.tup [.int (i : Nat), x]) ∧ ∀ xs, SqT K H a xs → xs[i]? = some x, fun i H => ∃ xs : List V, SqT K H a xs ∧ xs.length = i⟩
theorem turn_enumT {P : Program} {w : World} {K : PySem.W.Frag} {elts : List Expr} {kk : Nat} {tpos : Pos} (a e it : Addr) :
    Turn P w K (.Tuple elts kk tpos) (IteT K a) [e, it] e (fun i h => (∃ old, IsEnum h e it ((i : Nat) : Int) old) ∧ h.IsTupleIter it a i ∧ e ≠ it ∧ a ≠ it ∧ e ≠ a) where
  mem := by simp
  obj := fun i h st b hb => by
    obtain ⟨⟨old, he⟩, ⟨o, ho, hc, hd⟩, _⟩ := st
    have e' : b = e ∨ b = it := by simpa using hb
    rcases e' with z | z
    · rw [z]; exact ⟨_, he, fun v q => nomatch q⟩
    · rw [z]; exact ⟨o, ho, fun v q => by rw [hd] at q; cases q⟩
  keep := fun i h h' st k => let ⟨⟨old, he⟩, hi, hne⟩ := st; ⟨⟨old, k e (by simp) _ he⟩, hi.at fun o q => k it (by simp) o q, hne⟩
  item := by
    intro X hP hw hK hc i pins s σ H E I hf st hg
    subst hP hw hK
    obtain ⟨⟨old, he⟩, hit, hne, hai, hea⟩ := st
    obtain ⟨xs, x, hq, hx⟩ := hg
    obtain ⟨its, rv, p, hz⟩ := I.tuple hq
    have pt : s.heap.IsTuple a its.toArray := p
    obtain ⟨u, hu, ru⟩ := rv.get hx
    have hel : e < s.heap.objs.size := Heap.lt_size he
    have hil : it < s.heap.objs.size := by obtain ⟨_, q, _⟩ := hit; exact Heap.lt_size q
    have hlt : i < its.toArray.size := by
      have := (List.getElem?_eq_some_iff.mp hu).1
      simpa using this
    refine wpAny_pyNext_enum_itemD (Draws.tuple (A := X.A.in1) (by simpa using I.ok.hd hc) it a hai its.toArray) he ⟨hit, pt⟩ hlt hne (by simp [hne, hea]) fun y h' tk hy ho hit' hT hsz hk => ?_
    have eu : y = u := by
      have z : its[i]? = some y := by simpa using hy
      exact Option.some.inj (z.symm.trans hu)
    subst eu
    refine ⟨_, rfl, wpAny_letOwnedTupleGo_enum (s := { s with heap := h', toks := tk + 1 }) ho fun h'' he' sb => ?_⟩
    have hT2 : h''.get? s.heap.objs.size = some { cls := .type "tuple", data := .seq #[.int i tk, y] } := (sb.2 _ (Nat.ne_of_gt hel)).trans hT
    have new : ObjOk X.prog X.w (upd H s.heap.objs.size (.tup [.int (i : Nat), x])) h'' s.heap.objs.size (.tup [.int (i : Nat), x]) :=
      ⟨by show 2 ≤ sizeLine; decide, [.int i tk, y], .cons ⟨_, rfl⟩ (.cons ru .nil), ⟨_, hT2, rfl, _, rfl⟩⟩
    have I1 : Inv X pins σ (upd H s.heap.objs.size (.tup [.int (i : Nat), x])) { s with heap := h'', toks := tk + 1 } :=
      I.turnedNew (ch := [e, it]) (fun b ob hb q => (sb.2 b (fun z => hb (by simp [z]))).trans (hk b ob (fun z => hb (by simp [z])) (fun z => hb (by simp [z])) q)) hf (Nat.le_refl _) new
    refine ⟨.ref s.heap.objs.size, _, I1, rfl, ⟨_, x, rfl, I.hok.fresh (Nat.le_refl _), rfl, fun ys hy => by rw [I.tuple_inj hy hq]; exact hx⟩, ⟨⟨y, ?_⟩, hit'.1.at fun o q => (sb.2 it (Ne.symm hne)).trans q, hne, hai, hea⟩, fun b hb => ?_⟩
    · have e1 : ((i + 1 : Nat) : Int) = (i : Int) + 1 := by omega
      rw [e1]; exact he'
    · have e' : b = e ∨ b = it := by simpa using hb
      have hb' : b < s.heap.objs.size := by
        rcases e' with z | z
        · rw [z]; exact hel
        · rw [z]; exact hil
      rw [upd_ne (Nat.ne_of_lt hb')]
      exact (hf b hb).1
  done := by
    intro X hP hw hK hc i pins s σ H E I hf st hg
    subst hP hw hK
    obtain ⟨⟨old, he⟩, hit, hne, hai, hea⟩ := st
    obtain ⟨xs, hq, hx⟩ := hg
    obtain ⟨its, rv, p, hz⟩ := I.tuple hq
    have pt : s.heap.IsTuple a its.toArray := p
    obtain ⟨f0, f1, f2, f3, f4, f5⟩ := hf it (by simp)
    have hl : its.toArray.size = i := by
      rw [← hx, rv.length]
      simp
    refine wpAny_pyNext_enum_endD (Draws.tuple (A := X.A.in1) (by simpa using I.ok.hd hc) it a hai its.toArray) he ⟨by rw [hl]; exact hit, pt⟩ fun h' eb => ⟨rfl, I.turned (t' := s.toks) (fun b o hb q => eb b o hb q) f0 f1 f3 f4 f5⟩
  self := fun A i s Q E st h => let ⟨⟨_, he⟩, _⟩ := st; wpAny_pyIter_enum he h
def iEnumT (K : PySem.W.Frag) (ta : TA) : TI := fun σ H R => ta σ H fun vs H1 => ∃ a xs, vs = [.ref a] ∧ SqT K H1 a xs ∧ R (IteT K a) H1
theorem pi_enumT {X : Cx} {e : Expr} {ta : TA} {p pos tpos : Pos} {elts : List Expr} {kk : Nat} (hg : Gl X "enumerate") (hm : X.mg "enumerate" = none) (ha : PA X [e] ta) (hs : starEach [e] X.env = [(false, eval e X.env)] := by rfl) :
    PI X (.Tuple elts kk tpos) (.Call (.Name "enumerate" p) [e] [] pos) (iEnumT X.K ta) := by
  refine ⟨fun pins s σ H R I h => ?_⟩
  refine Call_ (ld_blt I hg hm boot_enumerate (PyProof.Rows.callWith_type1 (thn (ha.run pos pins s σ H _ I h) fun us s1 ⟨vs, H1, I1, r1, q1⟩ => ?_) hs rfl))
  obtain ⟨a, xs, ex, hq, q⟩ := q1
  subst ex
  cases r1 with
  | cons r rr =>
    cases rr
    cases r
    obtain ⟨its, rv, p', hz⟩ := I1.tuple hq
    have pt : s1.heap.IsTuple a its.toArray := p'
    have below : a < s1.heap.objs.size := by obtain ⟨_, q, _⟩ := pt; exact Heap.lt_size q
    refine enum_tuple pt fun h' he hit hsz hk => wpAny_pyIter_enum he ?_
    have I2 : Inv X pins σ H1 { s1 with heap := h' } := I1.kept (t' := s1.toks) hk
    refine ⟨s1.heap.objs.size + 1, [s1.heap.objs.size + 1, s1.heap.objs.size], _, _, H1, rfl, I2, turn_enumT a (s1.heap.objs.size + 1) s1.heap.objs.size, ⟨⟨.none, he⟩, hit, Nat.succ_ne_self _, Nat.ne_of_lt below, Nat.ne_of_gt (Nat.lt_succ_of_lt below)⟩, fun b hb => ?_, q⟩
    have e' : b = s1.heap.objs.size + 1 ∨ b = s1.heap.objs.size := by simpa using hb
    have hle : s1.heap.objs.size ≤ b := by
      rcases e' with z | z
      · rw [z]; exact Nat.le_add_right _ _
      · rw [z]; exact Nat.le_refl _
    exact I1.fpOk hle (I1.hok.fresh hle)
theorem walk_enumT {K : PySem.W.Frag} {a : Addr} {xs : List V} : L2.Walk (IteT K a) xs.length (fun H => SqT K H a xs) (YPair (fun i => some (.int (i : Nat))) (fun i => xs[i]?)) :=
  ⟨fun i H hi q => ⟨xs, xs[i], q, by simp [hi]⟩, fun H q => ⟨xs, q, rfl⟩, fun i H x H' hi q ⟨T, y, e1, e2, e3, e4⟩ => ⟨T, _, y, e1, e2, e3, rfl, e4 xs q⟩⟩

/-! ### a dict comprehension over any walk -/
theorem dc_it {J : It} {n : Nat} {G : Hp → Prop} {Y : Nat → Hp → V → Hp → Prop} (w : L2.Walk J n G Y) {g : TG} {tt : TT} {tk tv : TE} {vs : List Nat} {σ : L2.St} {H1 : Hp} {D : Addr} {Qd : Hp → Prop} (Pv : Nat → Hp → Prop) (h0 : Pv 0 (upd H1 D (.dK []))) (hG : ∀ i H, i ≤ n → Pv i H → G H)
    (hs : ∀ i x H H', i < n → Pv i H → Y i H x H' → g x (wipe σ vs) H' fun σ2 H2 => wipe σ2 vs = wipe σ vs ∧ tt σ2 H2 fun b H3 =>
      if b = true then tk σ2 H3 fun y H4 => tv σ2 H4 fun z H5 => ∃ kvs k, y = kV k ∧ H5 D = some (.dK kvs) ∧ kvs.length < sizeLine ∧ Pv (i + 1) (upd H5 D (.dK (putK kvs k z))) else Pv (i + 1) H3) (hd : ∀ H, Pv n H → Qd H) :
    ∃ W : Nat → Nat → Hp → Prop, (∃ m, W 0 m (upd H1 D (.dK []))) ∧ ∀ i m H, W i m H →
      (J.stop i H ∧ Qd H) ∨ (J.go i H ∧ ∃ Nx : Hp → Prop, (∀ H', Nx H' → ∃ m', m' < m ∧ W (i + 1) m' H') ∧ ∀ x H', J.yld i H x H' → g x (wipe σ vs) H' fun σ2 H2 => wipe σ2 vs = wipe σ vs ∧ tt σ2 H2 fun b H3 =>
        if b = true then tk σ2 H3 fun y H4 => tv σ2 H4 fun z H5 => ∃ kvs k, y = kV k ∧ H5 D = some (.dK kvs) ∧ kvs.length < sizeLine ∧ Nx (upd H5 D (.dK (putK kvs k z))) else Nx H3) := by
  refine ⟨fun i m H => m = n - i ∧ i ≤ n ∧ Pv i H, ⟨n, rfl, Nat.zero_le _, h0⟩, fun i m H ⟨em, hi, p⟩ => ?_⟩
  subst em
  have q := hG i H hi p
  rcases Nat.lt_or_eq_of_le hi with hlt | e
  · exact .inr ⟨w.goes i H hlt q, Pv (i + 1), fun H' p' => ⟨n - (i + 1), by omega, rfl, hlt, p'⟩, fun x H' y => hs i x H H' hlt p (w.yields i H x H' hlt q y)⟩
  · subst e
    exact .inl ⟨w.stops H q, hd H p⟩

/-! ### isinstance, one class -/
theorem isi_tuple {K : PySem.W.Frag} {H : Hp} {a : Addr} {xs : List V} (h : SqT K H a xs) : TyX K H (.ref a) (.type "tuple") := by
  rcases h with (h | ⟨o, h⟩) | ⟨o, _, _, e, c, _⟩
  · exact .base (.tup h)
  · exact .fTuple h
  · exact .kTuple e c
end Ft
namespace Ft
open PySem PySem.Spec PyProof.Rows L2
/-- a block within a block -/
theorem blkIn {N : List Str} {env : Env} {cl : List (Str × Addr)} {C : Addr} {scope inner sc : Scope} {own : List (Str × Nat)} (he : env.scope = sc) (h : blkC N (relS scope sc) inner own = true) : BlkOk N (compEnvC scope cl C env).scope inner own := by
  subst he
  exact blkOk_by h
end Ft
namespace Ft
open PySem PySem.Spec PyProof.Rows L2
/-! ### the layer's rules whose reading names the written part, under names of their own -/
def rLenS (K : PySem.W.Frag) : List V → Hp → VK → Prop := fun xs H Q => ∃ p ys, xs = [.ref p] ∧ (SqL K H p ys ∨ SqT K H p ys) ∧ Q (.int ys.length) H
theorem call_lenS {X : Cx} : CallR X (.builtin "len") (rLenS X.K) := call_len_seq
def rListOf (K : PySem.W.Frag) : List V → Hp → VK → Prop := fun xs H Q => ∃ p ys, xs = [.ref p] ∧ (SqL K H p ys ∨ SqT K H p ys) ∧ ∀ l, H l = none → Q (.ref l) (upd H l (.lst ys))
theorem call_listOf {X : Cx} : CallR X (.type "list") (rListOf X.K) := call_list_of
def rTupleOf (K : PySem.W.Frag) : List V → Hp → VK → Prop := fun xs H Q => ∃ p ys, xs = [.ref p] ∧ ((SqL K H p ys ∧ ∀ l, H l = none → Q (.ref l) (upd H l (.tup ys))) ∨ (SqT K H p ys ∧ Q (.ref p) H))
theorem call_tupleOf {X : Cx} : CallR X (.type "tuple") (rTupleOf X.K) := call_tuple_of
end Ft
namespace Ft
open PySem PySem.Spec PyProof.Rows L2
theorem at_name {i : Nat} {v : V} {σ : L2.St} {H : Hp} {Q : L2.St → Hp → Prop} (h : Q (σ.set i (some v)) H) : gName i v σ H Q := h
theorem at_seq {a b : TS} {D : Ends} {σ : L2.St} {H : Hp} (h : a { D with nx := b D } σ H) : tSeq a b D σ H := h
end Ft
namespace Ft
open PySem PySem.Spec PyProof.Rows L2
/-! ### a word between two statements, and behind an expression -/
def tCut (t u : TS) : TS := fun D σ H => ∃ M : L2.St → Hp → Prop, t { D with nx := M } σ H ∧ ∀ σ' H', M σ' H' → u D σ' H'
theorem ps_cut {X : Cx} {st : Stmt} {rest : List Stmt} {t u : TS} (h1 : PS X st t) (h2 : PSs X rest u) : PSs X (st :: rest) (tCut t u) := by
  refine ⟨fun pins s σ H D I h => ?_⟩
  obtain ⟨M, hm, hu⟩ := h
  refine wpAny_execs_cons (thn (h1.run pins s σ H { D with nx := M } I hm) ?_)
  intro f s1 q
  match f, q with
  | .next, q =>
    obtain ⟨σ', H', I', q⟩ := q
    exact h2.run pins s1 σ' H' D I' (hu σ' H' q)
  | .ret v, q => exact q
  | .brk, q => exact q
  | .cont, q => exact q
def tMid (te : TE) : TE := fun σ H Q => ∃ M : V → Hp → Prop, te σ H M ∧ ∀ v H', M v H' → Q v H'
theorem pe_mid {X : Cx} {e : Expr} {te : TE} (h : PE X e te) : PE X e (tMid te) := by
  refine ⟨fun pins s σ H Q I ⟨M, hm, hu⟩ => ?_⟩
  exact thn (h.run pins s σ H M I hm) fun u s1 ⟨v, H1, I1, r, m⟩ => ⟨v, H1, I1, r, hu v H1 m⟩
def tMidT (tt : TT) : TT := fun σ H Q => ∃ M : Bool → Hp → Prop, tt σ H M ∧ ∀ b H', M b H' → Q b H'
theorem pt_mid {X : Cx} {e : Expr} {tt : TT} (h : PT X e tt) : PT X e (tMidT tt) := by
  refine ⟨fun pins s σ H Q I ⟨M, hm, hu⟩ => ?_⟩
  exact thn (h.run pins s σ H M I hm) fun b s1 ⟨H1, I1, m⟩ => ⟨H1, I1, hu b H1 m⟩
theorem ite_any {c : Bool} {A B : Prop} (a : c = true → A) (b : c = false → B) : if c = true then A else B := by
  cases c with
  | true => exact iteT (a rfl)
  | false => exact iteF (b rfl)
end Ft

set_option Elab.async false
set_option linter.all false
set_option maxRecDepth 100000
set_option maxHeartbeats 4000000
namespace Ft
open PySem PySem.Spec PyProof.Rows L2
/-! ### the heap: what stays, and maps as they lie in it -/
def vN (n : Nat) : V := .int (n : Int)
def iN (l : List Nat) : List Int := l.map fun (n : Nat) => (n : Int)
theorem vN_map (l : List Nat) : l.map vN = (iN l).map V.int := by
  unfold iN
  rw [List.map_map]
  rfl
theorem iN_length (l : List Nat) : (iN l).length = l.length := List.length_map ..
theorem iN_mem {l : List Nat} {n : Nat} : (n : Int) ∈ iN l ↔ n ∈ l := by
  unfold iN
  constructor
  · intro h
    obtain ⟨m, hm, e⟩ := List.mem_map.mp h
    have : m = n := by omega
    exact this ▸ hm
  · intro h
    exact List.mem_map.mpr ⟨n, h, rfl⟩
/-- all but the objects in ex stay as they are -/
def Kp (ex : List Addr) (H H' : Hp) : Prop := ∀ b o, b ∉ ex → H b = some o → H' b = some o
theorem Kp.refl (ex : List Addr) (H : Hp) : Kp ex H H := fun _ _ _ h => h
theorem Kp.trans {ex : List Addr} {H H1 H2 : Hp} (a : Kp ex H H1) (b : Kp ex H1 H2) : Kp ex H H2 := fun c o n h => b c o n (a c o n h)
theorem Kp.of_same {ex : List Addr} {H H1 : Hp} (a : Same H H1) : Kp ex H H1 := fun c o _ h => a c o h
theorem Same.kp {ex : List Addr} {H H1 : Hp} (a : Same H H1) : Kp ex H H1 := fun c o _ h => a c o h
theorem same_upd {H : Hp} {p : Addr} {o : HO} (n : H p = none) : Same H (upd H p o) := fun b u e => by
  rw [upd_ne (ne_of_none e n)]
  exact e
theorem same_free {H H' : Hp} (a : Same H H') {p : Addr} (n : H' p = none) : H p = none := a.free n
theorem kp_free {ex : List Addr} {H H' : Hp} (a : Kp ex H H') {p : Addr} (hp : p ∉ ex) (n : H' p = none) : H p = none := by
  cases q : H p with
  | none => rfl
  | some o =>
    rw [a p o hp q] at n
    cases n
/-- a tuple stays where only lists and dicts change -/
def Lists (ex : List Addr) (H : Hp) : Prop := ∀ b ∈ ex, ∃ o, H b = some o ∧ (∀ xs, o ≠ .tup xs) ∧ ∀ q xs, o ≠ .frz q (.tup xs)
theorem Kp.sqT {K : PySem.W.Frag} {ex : List Addr} {H H' : Hp} (k : Kp ex H H') (l : Lists ex H) {a : Addr} {xs : List V} (h : SqT K H a xs) : SqT K H' a xs := by
  have off : ∀ o, H a = some o → ((∃ ys, o = .tup ys) ∨ ∃ q ys, o = .frz q (.tup ys)) → a ∉ ex := by
    intro o e t m
    obtain ⟨u, e1, n1, n2⟩ := l a m
    have : o = u := Option.some.inj (e.symm.trans e1)
    subst this
    rcases t with ⟨ys, t⟩ | ⟨q, ys, t⟩
    · exact n1 ys t
    · exact n2 q ys t
  rcases h with (h | ⟨o, h⟩) | h
  · exact .inl (.inl (k _ _ (off _ h (.inl ⟨_, rfl⟩)) h))
  · exact .inl (.inr ⟨o, k _ _ (off _ h (.inr ⟨_, _, rfl⟩)) h⟩)
  · exact .inr h
theorem Kp.sqL {K : PySem.W.Frag} {ex : List Addr} {H H' : Hp} (k : Kp ex H H') {a : Addr} {xs : List V} (n : a ∉ ex) (h : SqL K H a xs) : SqL K H' a xs := by
  rcases h with (h | ⟨o, h⟩) | h
  · exact .inl (.inl (k _ _ n h))
  · exact .inl (.inr ⟨o, k _ _ n h⟩)
  · exact .inr h
theorem lists_nil (H : Hp) : Lists [] H := fun _ h => nomatch h
theorem Same.sqT {K : PySem.W.Frag} {H H' : Hp} (k : Same H H') {a : Addr} {xs : List V} (h : SqT K H a xs) : SqT K H' a xs := (Same.kp (ex := []) k).sqT (lists_nil H) h

/-- a map -/
structure Chart where
  n : Nat
  roads : List (Nat × Nat)
  wished : List Nat
/-- a row of pairs at the addresses ts -/
def PairsAt (K : PySem.W.Frag) (H : Hp) (ts : List Addr) (ps : List (Nat × Nat)) : Prop := Paired (fun (t : Addr) (p : Nat × Nat) => SqT K H t [vN p.1, vN p.2]) ts ps
structure ChartAt (K : PySem.W.Frag) (H : Hp) (c : Addr) (C : Chart) (r w : Addr) (ts : List Addr) : Prop where
  top : SqT K H c [vN C.n, .ref r, .ref w]
  row : SqT K H r (ts.map V.ref)
  prs : PairsAt K H ts C.roads
  wis : SqT K H w (C.wished.map vN)
def IsChart (K : PySem.W.Frag) (H : Hp) (c : Addr) (C : Chart) : Prop := ∃ r w ts, ChartAt K H c C r w ts
theorem paired_imp {α β : Type} {R S : α → β → Prop} (h : ∀ a b, R a b → S a b) : ∀ {as : List α} {bs : List β}, Paired R as bs → Paired S as bs
  | _, _, .nil => .nil
  | _, _, .cons r t => .cons (h _ _ r) (paired_imp h t)
theorem PairsAt.keep {K : PySem.W.Frag} {ex : List Addr} {H H' : Hp} (k : Kp ex H H') (l : Lists ex H) {ts : List Addr} {ps : List (Nat × Nat)} (h : PairsAt K H ts ps) : PairsAt K H' ts ps :=
  paired_imp (fun _ _ q => k.sqT l q) h
theorem ChartAt.keep {K : PySem.W.Frag} {ex : List Addr} {H H' : Hp} (k : Kp ex H H') (l : Lists ex H) {c r w : Addr} {C : Chart} {ts : List Addr} (h : ChartAt K H c C r w ts) : ChartAt K H' c C r w ts :=
  ⟨k.sqT l h.top, k.sqT l h.row, h.prs.keep k l, k.sqT l h.wis⟩
theorem IsChart.keep {K : PySem.W.Frag} {ex : List Addr} {H H' : Hp} (k : Kp ex H H') (l : Lists ex H) {c : Addr} {C : Chart} (h : IsChart K H c C) : IsChart K H' c C := let ⟨r, w, ts, q⟩ := h; ⟨r, w, ts, q.keep k l⟩
theorem IsChart.same {K : PySem.W.Frag} {H H' : Hp} (k : Same H H') {c : Addr} {C : Chart} (h : IsChart K H c C) : IsChart K H' c C := h.keep (Same.kp (ex := []) k) (lists_nil H)
theorem ChartAt.same {K : PySem.W.Frag} {H H' : Hp} (k : Same H H') {c r w : Addr} {C : Chart} {ts : List Addr} (h : ChartAt K H c C r w ts) : ChartAt K H' c C r w ts := h.keep (Same.kp (ex := []) k) (lists_nil H)
theorem paired_get {α β : Type} {R : α → β → Prop} : ∀ {as : List α} {bs : List β} {i : Nat} {b : β}, Paired R as bs → bs[i]? = some b → ∃ a, as[i]? = some a ∧ R a b
  | _, _, _, _, .nil, e => by simp at e
  | _, _, 0, _, .cons r _, e => by
    simp at e
    subst e
    exact ⟨_, rfl, r⟩
  | _, _, i + 1, b, .cons _ t, e => by
    obtain ⟨a, h1, h2⟩ := paired_get (i := i) t (by simpa using e)
    exact ⟨a, by simpa using h1, h2⟩
theorem paired_getL {α β : Type} {R : α → β → Prop} : ∀ {as : List α} {bs : List β} {i : Nat} {a : α}, Paired R as bs → as[i]? = some a → ∃ b, bs[i]? = some b ∧ R a b
  | _, _, _, _, .nil, e => by simp at e
  | _, _, 0, _, .cons r _, e => by
    simp at e
    subst e
    exact ⟨_, rfl, r⟩
  | _, _, i + 1, b, .cons _ t, e => by
    obtain ⟨a, h1, h2⟩ := paired_getL (i := i) t (by simpa using e)
    exact ⟨a, by simpa using h1, h2⟩
/-- the order of pairs -/
def ltP (p q : Nat × Nat) : Prop := p.1 < q.1 ∨ (p.1 = q.1 ∧ p.2 < q.2)
structure Chart.Ok (C : Chart) : Prop where
  n60 : C.n ≤ 60
  many : C.roads.length ≤ 240
  inR : ∀ p ∈ C.roads, p.1 < C.n ∧ p.2 < C.n
  upR : C.roads.Pairwise ltP
  inW : ∀ a ∈ C.wished, a < C.n
  upW : C.wished.Pairwise (· < ·)
/-- the builtins' names that the top has left alone, and its own two numbers -/
structure Txt (mg : Str → Option Value) : Prop where
  isinstance : mg "isinstance" = none
  len : mg "len" = none
  tuple : mg "tuple" = none
  int : mg "int" = none
  bool : mg "bool" = none
  enumerate : mg "enumerate" = none
  range : mg "range" = none
  set : mg "set" = none
  list : mg "list" = none
  sorted : mg "sorted" = none
  min : mg "min" = none
  max : mg "max" = none
  repr : mg "repr" = none
  dict : mg "dict" = none
  str : mg "str" = none
  any : mg "any" = none
  all : mg "all" = none
  sum : mg "sum" = none
  zip : mg "zip" = none
end Ft

set_option Elab.async false
set_option linter.all false
set_option maxRecDepth 100000
set_option maxHeartbeats 4000000
/-! Errors of own classes that share one __init__(self, what): raised, let through by a def, caught. -/
namespace Ft
open PySem PySem.Spec PyProof.Rows L2
/-- the class x of the text, at C; fI: the __init__ that it has -/
structure ErrC (K : PySem.W.Frag) (mg : Str → Option Value) (x : Str) (C fI : Addr) : Prop where
  g : mg x = some (.ref C)
  oex : OexC K C
  iC : PySem.W.findIn K (.ref C) "__init__" = some (some (.ref fI))
  tI : PySem.W.typeIn K (.ref fI) = some (.type "function")
  noW : PySem.W.findIn K (.ref C) "what" = some none
  xf : XfC K C
/-- __init__(self, what) -/
def spInit (K : PySem.W.Frag) : Sp := fun vs H Q _ => ∃ (a C : Addr) (v : V), vs = [.ref a, v] ∧ OexC K C ∧ PySem.W.findIn K (.ref C) "what" = some none ∧ H a = some (exo a C none) ∧
  ∀ dx, H dx = none → dx ≠ a → Q .non (upd (upd H dx (exd dx [("what", v)])) a (exo a C (some dx)))
/-- an error that may be raised -/
structure Er (P : Program) (w : World) (K : PySem.W.Frag) (mg : Str → Option Value) (base : Heap) (ca : Str → Addr) (x : Str) : Prop where
  ex : ∃ (fI : Addr) (fd : FuncData), ErrC K mg x (ca x) fI ∧ FnOk P w K mg base L2.CX0 1 fI fd ["self", "what"] (spInit K) ∧ Binds K fd ["self", "what"] []
theorem Er.c {P : Program} {w : World} {K : PySem.W.Frag} {mg : Str → Option Value} {base : Heap} {ca : Str → Addr} {x : Str} (e : Er P w K mg base ca x) : ∃ fI, ErrC K mg x (ca x) fI := let ⟨fI, _, h, _⟩ := e.ex; ⟨fI, h⟩
theorem upd_del {H : Hp} {a d : Addr} {o : HO} {u v : HO} {w : HO} (na : H a = none) (hd : d ≠ a) : upd (del (upd (upd (upd H a o) d u) a v) a) d w = upd H d w := by
  funext b
  by_cases h1 : b = d
  · rw [h1, upd_same, upd_same]
  · rw [upd_ne h1, upd_ne h1]
    by_cases h2 : b = a
    · rw [h2, del_same, na]
    · rw [del_ne h2, upd_ne h2, upd_ne h1, upd_ne h2]
theorem passF {X : Cx} {E : XK} : Passes L2.CX0 X E := fun _ _ _ _ _ _ _ h => h.elim
def tMidA (ta : TA) : TA := fun σ H Q => ∃ M : List V → Hp → Prop, ta σ H M ∧ ∀ vs H', M vs H' → Q vs H'
theorem pa_mid {X : Cx} {es : List Expr} {ta : TA} (h : PA X es ta) : PA X es (tMidA ta) := by
  refine ⟨fun pos pins s σ H Q I ⟨M, hm, hu⟩ => ?_⟩
  exact thn (h.run pos pins s σ H M I hm) fun us s1 ⟨vs, H1, I1, r, m⟩ => ⟨vs, H1, I1, r, hu vs H1 m⟩
/-- raise x(e) -/
def tRaise (C : Addr) (W : WX) (ta : TA) : TS := fun _ σ H => ta σ H fun vs H1 => ∃ v, vs = [v] ∧ ∀ d, H1 d = none → W (.ref C) (some d) σ (upd H1 d (.xd [("what", v)]))
section
variable {X : Cx} {ca : Str → Addr} {x : Str} {W : WX} {e : Expr} {es : List Expr} {ta : TA} {p pos pos2 : Pos} {k : Nat}
theorem ps_raiseE (hc : X.calm = true) (er : Er X.prog X.w X.K X.mg X.base ca x) (hr : Room k X.A) (hk : 2 ≤ k) (tk : Takes X W) (hg : Gl X x) (ha : PA X (e :: es) ta)
    (hdb : (x == ("__debug__" : Str)) = false := by decide) (he : starEach (e :: es) X.env = (false, eval e X.env) :: starEach es X.env := by rfl) (hpl : (backTo pos (starEach es X.env)).any (·.1) = false := by rfl) :
    PS X (.Raise (some (.Call (.Name x p) (e :: es) [] pos)) none pos2) (tRaise (ca x) W ta) := by
  obtain ⟨fI, fd, c, F, b⟩ := er.ex
  refine ⟨fun pins s σ H D I h => ?_⟩
  refine (ps_raise (pos := pos2) hc tk (pmk_oex (pos := pos) (p := p) c.oex c.iC c.tI F (hr.mono hk) b .nil passF hg c.g (pa_mid ha) hdb he hpl)).run pins s σ H D I ?_
  have imp : ∀ vs H1, (∃ v, vs = [v] ∧ ∀ d, H1 d = none → W (.ref (ca x)) (some d) σ (upd H1 d (.xd [("what", v)]))) →
      vs.length ≤ 1000 ∧ ∀ a, H1 a = none → spInit X.K (.ref a :: (vs ++ [])) (upd H1 a (exo a (ca x) none)) (fun v H2 => v = .non ∧ ∃ (d : Addr) (fs : List (Str × V)), H2 a = some (exo a (ca x) (some d)) ∧ H2 d = some (exd d fs) ∧ H1 d = none ∧ W (.ref (ca x)) (some d) σ (upd (del H2 a) d (.xd fs))) (fun _ _ _ => False) := by
    rintro vs H1 ⟨v, rfl, q⟩
    refine ⟨by simp, fun a na => ⟨a, ca x, v, rfl, c.oex, c.noW, upd_same, fun dx ndx hda => ⟨rfl, dx, [("what", v)], upd_same, ?_, ?_, ?_⟩⟩⟩
    · rw [upd_ne hda, upd_same]
    · rwa [upd_ne hda] at ndx
    · rw [upd_del na hda]
      rw [upd_ne hda] at ndx
      exact q dx ndx
  exact ⟨_, h, imp⟩
end
/-! ### defs that may raise -/
structure CalX (P : Program) (w : World) (K : PySem.W.Frag) (mg : Str → Option Value) (base : Heap) (k : Nat) (x : Str) (sp : Sp) : Prop where
  ex : ∃ (f : Addr) (fd : FuncData) (ps : List Str), FnOk P w K mg base (L2.CX P w) k f fd ps sp ∧ mg x = some (.ref f) ∧ PySem.W.keepIn K (.ref f) = true ∧ Binds K fd ps []
theorem pe_x {X : Cx} {k j : Nat} {x : Str} {sp : Sp} {W : WX} {p pos : Pos} {e : Expr} {es : List Expr} {t : TA} (tk : Takes X W) (c : CalX X.prog X.w X.K X.mg X.base k x sp) (hr : Room j X.A) (hk : k ≤ j) (hg : Gl X x) (ha : PA X (e :: es) t)
    (hdb : (x == ("__debug__" : Str)) = false := by decide) (he : starEach (e :: es) X.env = (false, eval e X.env) :: starEach es X.env := by rfl) (hpl : (backTo pos (starEach es X.env)).any (·.1) = false := by rfl) :
    PE X (.Call (.Name x p) (e :: es) [] pos) (tCallS sp (WE W) t) := by
  obtain ⟨f, fd, ps, F, hm, kp, b⟩ := c.ex
  exact pe_callS F (hr.mono hk) hg hm kp b (fun σ => passAt tk σ) ha hdb he hpl
theorem calx_of {P : Program} {w : World} {K : PySem.W.Frag} {mg : Str → Option Value} {base : Heap} {x : Str} {st : Stmt} {N ps : List Str} {k : Nat} {sp : Sp} (D : Def K mg x st) (S : FnScope N ps (L2.defScope st))
    (bd : ∀ (kV doc pm : Value) (an : Option Addr) (cdv ct : Value) (us : List Value), us.length = ps.length → bindArgs (PySem.W.fnOf x x (L2.defArgs st) (L2.defBody st) (L2.defScope st) .none kV doc pm an cdv ct) ⟨us, []⟩ = pure (ps.zip us))
    (len : ∀ vs H Q E, sp vs H Q E → vs.length = ps.length)
    (body : ∀ (f : Addr) (cdv : Value) (A : Around) (outer : List Env) (s : Shared) (H : Hp) (vs : List V) (Q : VK) (E : XK), Room k (A.deeper (envOfC x (L2.defScope st) s.heap.objs.size f cdv)) → sp vs H Q E →
      ∃ t, PSs (cxOf (L2.CX P w) P w K mg base N x (L2.defScope st) f cdv A outer s H E) (L2.defBody st) t ∧ t { nx := fun _ H' => Q .non H', rt := Q } (start N vs) H) : CalX P w K mg base (k + 1) x sp := by
  obtain ⟨f, fd, F, hm⟩ := D.ex
  exact ⟨f, fd, ps, F.okX S len (body f), hm, F.kp, F.binds bd⟩
/-- .. where nothing is raised -/
theorem fnOk_valid {P : Program} {w : World} {K : PySem.W.Frag} {mg : Str → Option Value} {base : Heap} {k : Nat} {f : Addr} {fd : FuncData} {ps : List Str} {sp sp' : Sp} (F : FnOk P w K mg base (L2.CX P w) k f fd ps sp)
    (h : ∀ vs H Q E, sp' vs H Q E → sp vs H Q L2.E0) : FnOk P w K mg base L2.CX0 k f fd ps sp' :=
  ⟨fun vs H Q E q => F.len vs H Q _ (h _ _ _ _ q), fun A outer s H args us vs Q E hr he hb hv hs => codeAny_mono (F.run A outer s H args us vs Q L2.E0 hr he hb hv (h _ _ _ _ hs)) fun r s' hq => by
    cases r with
    | error e =>
      obtain ⟨_, _, _, _, _, _, _, _, _, _, _, _, z⟩ := hq
      exact z.elim
    | ok fl => cases fl <;> exact hq⟩
theorem CalX.valid {P : Program} {w : World} {K : PySem.W.Frag} {mg : Str → Option Value} {base : Heap} {k : Nat} {x : Str} {sp sp' : Sp} (c : CalX P w K mg base k x sp) (h : ∀ vs H Q E, sp' vs H Q E → sp vs H Q L2.E0) : Cal P w K mg base k x sp' := by
  obtain ⟨f, fd, ps, F, hm, kp, b⟩ := c.ex
  exact ⟨f, fd, ps, fnOk_valid F h, hm, kp, b⟩
theorem Cal.imp {P : Program} {w : World} {K : PySem.W.Frag} {mg : Str → Option Value} {base : Heap} {k : Nat} {x : Str} {sp sp' : Sp} (c : Cal P w K mg base k x sp) (h : ∀ vs H Q E, sp' vs H Q E → sp vs H Q E) : Cal P w K mg base k x sp' := by
  obtain ⟨f, fd, ps, F, hm, kp, b⟩ := c.ex
  exact ⟨f, fd, ps, F.imp h, hm, kp, b⟩
/-- what is wanted of an error e, of all that may leave -/
def Raised (K : PySem.W.Frag) (ca : Str → Addr) (H : Hp) (E : XK) (e : Str × PyData) : Prop := ∀ (d : Addr) (H' : Hp) (v : V), Same H H' → H' d = some (.xd [("what", v)]) → Dp K H' v e.2 → E (.ref (ca e.1)) (some d) H'
theorem Raised.same {K : PySem.W.Frag} {ca : Str → Addr} {H H1 : Hp} {E : XK} {e : Str × PyData} (r : Raised K ca H E e) (s : Same H H1) : Raised K ca H1 E e := fun d H' v s' hd hv => r d H' v (s.trans s') hd hv
end Ft

set_option Elab.async false
set_option linter.all false
set_option maxRecDepth 100000
set_option maxHeartbeats 4000000
/-! Several except clauses, each with a name or without. -/
namespace Ft
open PySem PySem.Spec PyProof.Rows L2
abbrev Hd := Value × Option Nat × (Addr → Value → Option Addr → TS)
def gone (i : Nat) (D : Ends) : Ends := { nx := fun σ' H' => D.nx (σ'.set i none) H', rt := D.rt, bk := fun σ' H' => D.bk (σ'.set i none) H', ct := fun σ' H' => D.ct (σ'.set i none) H' }
def wHd (o : Option Nat) (ts : Addr → Value → Option Addr → TS) (a : Addr) (cls : Value) (d : Option Addr) (D : Ends) (σ : L2.St) (H : Hp) : Prop := match o with
  | none => ts a cls d D σ H
  | some i => ts a cls d (gone i D) (σ.set i (some (.ref a))) H
/-- what the clauses wish of an exception of the body -/
def wMs (K : PySem.W.Frag) (n : Nat) (Wout : WX) (D : Ends) : List Hd → WX
  | [] => Wout
  | (c, o, ts) :: r => fun cls d σ H => ∃ b, PySem.W.exmOne K cls c = some b ∧ (b = true → ∀ a, H a = none → σ.length = n → wHd o ts a cls d D σ H) ∧ (b = false → wMs K n Wout D r cls d σ H)
inductive HdsA (X : Cx) : List ExceptHandler → List Hd → Prop
  | nil : HdsA X [] []
  | no {x : Str} {c : Value} {ts : Addr → Value → Option Addr → TS} {b₀ : Stmt} {suite : List Stmt} {np pos' : Pos} {hds : List ExceptHandler} {l : List Hd} (hc : Names X x c)
      (hsu : ∀ (a : Addr) (oe : Obj) (cls : Value) (d : Option Addr) (pn : List (Addr × Obj)), Zc cls d oe → (∃ vs, oe.data = .fields vs) → PSs (X.suite a ((a, oe) :: pn)) (b₀ :: suite) (ts a cls d)) (r : HdsA X hds l) :
      HdsA X (.ExceptHandler (some (.Name x np)) none (b₀ :: suite) pos' :: hds) ((c, none, ts) :: l)
  | as {x n : Str} {c : Value} {i : Nat} {ts : Addr → Value → Option Addr → TS} {b₀ : Stmt} {suite : List Stmt} {np pos' : Pos} {hds : List ExceptHandler} {l : List Hd} (hi : X.N[i]? = some n) (hln : X.env.kindOf n = some .local) (hc : Names X x c)
      (hsu : ∀ (a : Addr) (oe : Obj) (cls : Value) (d : Option Addr) (pn : List (Addr × Obj)), Zc cls d oe → (∃ vs, oe.data = .fields vs) → PSs (X.suite a ((a, oe) :: pn)) (b₀ :: suite) (ts a cls d)) (r : HdsA X hds l) :
      HdsA X (.ExceptHandler (some (.Name x np)) (some n) (b₀ :: suite) pos' :: hds) ((c, some i, ts) :: l)
section
variable {X : Cx} {body : List Stmt} {h₀ : ExceptHandler} {hds : List ExceptHandler} {l : List Hd} {pos : Pos} {tb : WX → TS} {Wout : WX}
theorem ps_try_ms (hs : X.stack = X.env :: X.outer) (hf : X.env.frame = some X.env.locals) (hN : X.N.Nodup) (tk : Takes X Wout)
    (hb : ∀ (W : WX) (pn : List (Addr × Obj)) (xe : Value → Shared → Prop), Takes (X.tr pn xe) W → PassesOwn (model X.prog X.w) X.A X.env xe → PSs (X.tr pn xe) body (tb W))
    (hh : HdsA X (h₀ :: hds) l) : PS X (.Try body (h₀ :: hds) [] [] pos) (fun D σ H => tb (wMs X.K X.N.length Wout D l) D σ H) := by
  refine ⟨fun pins s σ H D I h => ?_⟩
  have ok := I.ok
  have hfr : X.A.frames = some (X.env :: X.outer) := by rw [ok.frames, hs]
  refine wpAny_Try_except ?_
  refine wpAny_mono ((hb (wMs X.K X.N.length Wout D l) (X.pn ++ pins) (fun e s₁ => wpAny (model X.prog X.w) X.A (noteFrame e X.env) (fun _ s₂ => wpAny (model X.prog X.w) X.A (setFlight e none) (fun _ s₃ =>
    wpAny (model X.prog X.w) X.A (handleBy e X.env (h₀ :: hds)) (SP X pins D) X.xe s₃) X.xe s₂) X.xe s₁) (fun u s' xx => ?_) PassesOwn.looking).run [] s σ H D (I.toTry _) h) (fun f s1 hsp => ?_) (fun e s1 he => he)
  · -- the catch
    obtain ⟨a, B, sI, pins', σ', H', cls, d, rfl, J', nb, up, sky, na, os, ag, w⟩ := xx
    have J : Inv X pins σ' H' sI := J'.ofTry ok
    have sky' : Sky B (X.env :: X.outer) a (Zc cls d) X.env.locals s'.heap := by rw [← hs]; exact sky
    show wpAny (model X.prog X.w) X.A (noteFrame (.ref a) X.env) _ _ _
    refine Sky.land Zc.steady hfr hf sky' fun h3 fl3 up3 => ?_
    have J3 : Inv X pins σ' H' { s' with heap := h3 } := J.landed nb fl3.1 (up.trans up3) os ag
    obtain ⟨oe3, vs3, he3, hz3, hd3⟩ := fl3.there
    have notFr : ∀ {h : Heap} {o : Obj} {vs : Array Value}, h.FunFrames B (X.env :: X.outer) → h.get? a = some o → o.data = .fields vs → a ∉ frs (X.env :: X.outer) := fun {h o vs} ff e dd hm => by
      obtain ⟨_, o', e', hnf⟩ := ff.mem hm
      rw [e] at e'; cases e'
      exact hnf _ dd
    have nfr := notFr fl3.2.2.1 he3 hd3
    have nL : a ≠ X.env.locals := fun z => nfr (List.mem_filterMap.mpr ⟨X.env, List.mem_cons_self, by rw [hf, z]⟩)
    have nF : a ∉ X.fs := fun hm => by
      obtain ⟨e, he, q⟩ := List.mem_filterMap.mp hm
      exact nfr (List.mem_filterMap.mpr ⟨e, List.mem_cons_of_mem _ he, q⟩)
    have S3 := J3.suite he3 hd3 na nL nF
    have LT : PySem.W.Looks (model X.prog X.w) h3 (typeOf (.ref a)) cls := fun A Q E s k q => wpAny_typeOf_ref (k _ _ he3) (by rw [hz3.1]; exact q)
    have test : ∀ {x : Str} {c : Value} {np : Pos} (hc : Names X x c) {Q : Value → Shared → Prop} {E : Value → Shared → Prop}, Q c { s' with heap := h3 } → wpAny (model X.prog X.w) (X.A.mark (some (.ref a))) (eval (.Name x np) X.env) Q E { s' with heap := h3 } := fun {x c np} hc {Q E} q => by
      obtain ⟨hg, hdbg, hm | ⟨hm, hv, hnn⟩⟩ := hc
      · exact ld_glob (X := X.suite a ((a, oe3) :: (X.pn ++ pins))) S3 hg hm q hdbg
      · exact ld_blt (X := X.suite a ((a, oe3) :: (X.pn ++ pins))) S3 hg hm hv q hnn hdbg
    have go : ∀ {hds' : List ExceptHandler} {l' : List Hd}, HdsA X hds' l' → wMs X.K X.N.length Wout D l' cls d σ' H' →
        wpAny (model X.prog X.w) X.A (handleBy (.ref a) X.env hds') (SP X pins D) X.xe { s' with heap := h3 } := by
      intro hds' l' hk
      induction hk with
      | nil =>
        intro w
        refine wpAny_handleBy_nil ?_
        obtain ⟨k1, k2, k3, oe, vs, T, oT, ts', he, hz, hd, h1, hr⟩ := id fl3
        unfold PySem.passOn
        refine wpAny_bind (wpAny_field he hd h1 ?_)
        rw [if_neg (show ¬ ((Value.ref T == Value.none) = true) from by simp)]
        have fin : wpAny (model X.prog X.w) X.A (setFlight (.ref a) X.env.frame) (fun _ s4 => wpAny (model X.prog X.w) X.A (throw (.ref a) : Sem Flow) (SP X pins D) X.xe s4) X.xe { s' with heap := h3 } := by
          rw [hf]
          refine HandSPX.setFlight_upZ fl3 fun h4 hh4 up4 => wpAny_throw (tk _ _ ?_)
          exact ⟨a, B, sI, pins, σ', H', cls, d, rfl, J, nb, (up.trans up3).trans up4, .inr (.inr (by rw [hs]; exact hh4)), na, os, ag, w⟩
        first
          | exact wpAny_bind (wpAny_pure (wpAny_bind fin))
          | exact wpAny_bind fin
      | @no x c ts b₀ suite np pos' hds2 l2 hc hsu r ih =>
        intro w
        obtain ⟨b, hb1, hyes, hno⟩ := w
        have LM := PySem.W.exm_one (M := model X.prog X.w) (J3.kIn) LT hb1
        refine wpAny_handleBy_cons (codeAny_handlers_test ?_) (by intro q; cases q)
        refine test hc (LM.here ?_)
        cases b with
        | true =>
          refine codeAny_handlers_suite ?_
          refine HandSPX.lands_againZ fl3 fun h4 fl4 up4 => ?_
          have J4 : Inv X pins σ' H' { s' with heap := h4 } := J.landed nb fl4.1 ((up.trans up3).trans up4) os ag
          obtain ⟨oe4, vs4, he4, hz4, hd4⟩ := fl4.there
          have S4 := J4.suite he4 hd4 na nL nF
          refine wpAny_mono ((hsu a oe4 cls d (X.pn ++ pins) hz4 ⟨_, hd4⟩).run [] _ _ H' _ S4 (hyes rfl a na J.len)) (fun f s6 hsp => ?_) (fun _ _ z => False.elim z)
          cases f with
          | next =>
            obtain ⟨σ6, H6, S6, q6⟩ := hsp
            exact ⟨_, _, S6.unsuite ok, q6⟩
          | brk =>
            obtain ⟨σ6, H6, S6, q6⟩ := hsp
            exact ⟨_, _, S6.unsuite ok, q6⟩
          | cont =>
            obtain ⟨σ6, H6, S6, q6⟩ := hsp
            exact ⟨_, _, S6.unsuite ok, q6⟩
          | ret u =>
            obtain ⟨v6, σ6, H6, S6, r6, q6⟩ := hsp
            exact ⟨_, _, _, S6.unsuite ok, r6, q6⟩
        | false =>
          show wpAny _ X.A (handleBy (.ref a) X.env hds2) _ _ _
          exact ih (hno rfl)
      | @as x n c i ts b₀ suite np pos' hds2 l2 hi hln hc hsu r ih =>
        intro w
        obtain ⟨b, hb1, hyes, hno⟩ := w
        have LM := PySem.W.exm_one (M := model X.prog X.w) (J3.kIn) LT hb1
        refine wpAny_handleBy_cons (codeAny_handlers_test ?_) (by intro q; cases q)
        refine test hc (LM.here ?_)
        cases b with
        | true =>
          refine codeAny_handlers_suite_as ?_
          refine HandSPX.lands_againZ fl3 fun h4 fl4 up4 => ?_
          have J4 : Inv X pins σ' H' { s' with heap := h4 } := J.landed nb fl4.1 ((up.trans up3).trans up4) os ag
          obtain ⟨oe4, vs4, he4, hz4, hd4⟩ := fl4.there
          have S4 := J4.suite he4 hd4 na nL nF
          refine store_ok (X := X.suite a ((a, oe4) :: (X.pn ++ pins))) (v := .ref a) S4 hN hi (.inl hln) rfl (fun s5 S5 => ?_) (.inr hln)
          refine wpAny_mono ((hsu a oe4 cls d (X.pn ++ pins) hz4 ⟨_, hd4⟩).run [] s5 _ H' _ S5 (hyes rfl a na J.len)) (fun f s6 hsp => ?_) (fun _ _ z => False.elim z)
          have end_ : ∀ {σ6 : L2.St} {H6 : Hp} {Q : Shared → Prop}, Inv (X.suite a ((a, oe4) :: (X.pn ++ pins))) [] σ6 H6 s6 → (∀ s7, Inv X pins (σ6.set i none) H6 s7 → Q s7) →
              wpAny (model X.prog X.w) X.A (do bindName X.env n .none; unbindBehindTheSuite X.env n pos') (fun _ s7 => Q s7) X.xe s6 := fun {σ6 H6 Q} S6 hq => gone_ok (S6.unsuite ok) hN hi hln hq
          cases f with
          | next =>
            obtain ⟨σ6, H6, S6, q6⟩ := hsp
            exact end_ S6 fun s7 J7 => ⟨_, _, J7, q6⟩
          | brk =>
            obtain ⟨σ6, H6, S6, q6⟩ := hsp
            exact end_ S6 fun s7 J7 => ⟨_, _, J7, q6⟩
          | cont =>
            obtain ⟨σ6, H6, S6, q6⟩ := hsp
            exact end_ S6 fun s7 J7 => ⟨_, _, J7, q6⟩
          | ret u =>
            obtain ⟨v6, σ6, H6, S6, r6, q6⟩ := hsp
            exact end_ S6 fun s7 J7 => ⟨_, _, _, J7, r6, q6⟩
        | false =>
          show wpAny _ X.A (handleBy (.ref a) X.env hds2) _ _ _
          exact ih (hno rfl)
    exact go hh w
  · cases f with
    | next =>
      obtain ⟨σ', H', J', q⟩ := hsp
      exact wpAny_execs_nil ⟨σ', H', J'.ofTry ok, q⟩
    | brk =>
      obtain ⟨σ', H', J', q⟩ := hsp
      exact ⟨σ', H', J'.ofTry ok, q⟩
    | cont =>
      obtain ⟨σ', H', J', q⟩ := hsp
      exact ⟨σ', H', J'.ofTry ok, q⟩
    | ret u =>
      obtain ⟨v, σ', H', J', r, q⟩ := hsp
      exact ⟨v, σ', H', J'.ofTry ok, r, q⟩
end
end Ft

set_option Elab.async false
set_option linter.all false
set_option maxRecDepth 100000
set_option maxHeartbeats 4000000
/-! Data as it lies in the heap, and what the program's judges say of it. -/
namespace Ft
open PySem PySem.Spec PyProof.Rows L2
/-! ### data stay -/
theorem Same.sqL {K : PySem.W.Frag} {H H' : Hp} (k : Same H H') {a : Addr} {xs : List V} (h : SqL K H a xs) : SqL K H' a xs := (Same.kp (ex := []) k).sqL (by simp) h
mutual
theorem dp_same {K : PySem.W.Frag} {H H' : Hp} (s : Same H H') : ∀ (d : PyData) (v : V), Dp K H v d → Dp K H' v d
  | .none, _, h => by cases h; exact .non
  | .bool _, _, h => by cases h; exact .bl _
  | .int _, _, h => by cases h; exact .int _
  | .str _, _, h => by cases h; exact .str _
  | .list ds, _, h => by
    cases h with
    | lst h a => exact .lst (Same.sqL s h) (dp_sames s ds _ a)
  | .tuple ds, _, h => by
    cases h with
    | tup h a => exact .tup (Same.sqT s h) (dp_sames s ds _ a)
  | .dict _, _, h => by cases h
theorem dp_sames {K : PySem.W.Frag} {H H' : Hp} (s : Same H H') : ∀ (ds : List PyData) (vs : List V), DpAll K H vs ds → DpAll K H' vs ds
  | [], _, h => by cases h; exact .nil
  | d :: ds, _, h => by
    cases h with
    | cons h1 h2 => exact .cons (dp_same s d _ h1) (dp_sames s ds _ h2)
end
theorem Dp.same {K : PySem.W.Frag} {H H' : Hp} (s : Same H H') {d : PyData} {v : V} (h : Dp K H v d) : Dp K H' v d := dp_same s d v h
theorem DpAll.same {K : PySem.W.Frag} {H H' : Hp} (s : Same H H') {ds : List PyData} {vs : List V} (h : DpAll K H vs ds) : DpAll K H' vs ds := dp_sames s ds vs h
/-! no list in it -/
mutual
def noList : PyData → Bool
  | .list _ => false
  | .tuple ds => noLists ds
  | _ => true
def noLists : List PyData → Bool
  | [] => true
  | d :: ds => noList d && noLists ds
end
mutual
theorem dp_kp {K : PySem.W.Frag} {ex : List Addr} {H H' : Hp} (k : Kp ex H H') (l : Lists ex H) : ∀ (d : PyData) (v : V), noList d = true → Dp K H v d → Dp K H' v d
  | .none, _, _, h => by cases h; exact .non
  | .bool _, _, _, h => by cases h; exact .bl _
  | .int _, _, _, h => by cases h; exact .int _
  | .str _, _, _, h => by cases h; exact .str _
  | .list ds, _, n, h => by simp [noList] at n
  | .tuple ds, _, n, h => by
    cases h with
    | tup h a => exact .tup (k.sqT l h) (dp_kps k l ds _ (by simpa [noList] using n) a)
  | .dict _, _, _, h => by cases h
theorem dp_kps {K : PySem.W.Frag} {ex : List Addr} {H H' : Hp} (k : Kp ex H H') (l : Lists ex H) : ∀ (ds : List PyData) (vs : List V), noLists ds = true → DpAll K H vs ds → DpAll K H' vs ds
  | [], _, _, h => by cases h; exact .nil
  | d :: ds, _, n, h => by
    simp only [noLists, Bool.and_eq_true] at n
    cases h with
    | cons h1 h2 => exact .cons (dp_kp k l d _ n.1 h1) (dp_kps k l ds _ n.2 h2)
end
theorem dpAll_length {K : PySem.W.Frag} {H : Hp} : ∀ {vs : List V} {ds : List PyData}, DpAll K H vs ds → vs.length = ds.length
  | _, _, .nil => rfl
  | _, _, .cons _ t => by rw [List.length_cons, List.length_cons, dpAll_length t]
theorem dpAll_get {K : PySem.W.Frag} {H : Hp} : ∀ {vs : List V} {ds : List PyData} {i : Nat} {v : V}, DpAll K H vs ds → vs[i]? = some v → ∃ d, ds[i]? = some d ∧ Dp K H v d
  | _, _, _, _, .nil, e => by simp at e
  | _, _, 0, _, .cons r _, e => by
    simp at e
    subst e
    exact ⟨_, rfl, r⟩
  | _, _, i + 1, _, .cons _ t, e => by
    obtain ⟨d, h1, h2⟩ := dpAll_get (i := i) t (by simpa using e)
    exact ⟨d, by simpa using h1, h2⟩
theorem dpAll_getD {K : PySem.W.Frag} {H : Hp} : ∀ {vs : List V} {ds : List PyData} {i : Nat} {d : PyData}, DpAll K H vs ds → ds[i]? = some d → ∃ v, vs[i]? = some v ∧ Dp K H v d
  | _, _, _, _, .nil, e => by simp at e
  | _, _, 0, _, .cons r _, e => by
    simp at e
    subst e
    exact ⟨_, rfl, r⟩
  | _, _, i + 1, _, .cons _ t, e => by
    obtain ⟨d, h1, h2⟩ := dpAll_getD (i := i) t (by simpa using e)
    exact ⟨d, by simpa using h1, h2⟩
/-! ### isinstance of data -/
def tyD : PyData → String
  | .none => "NoneType"
  | .bool _ => "bool"
  | .int _ => "int"
  | .str _ => "str"
  | .list _ => "list"
  | .tuple _ => "tuple"
  | .dict _ => "dict"
theorem isi_dp {K : PySem.W.Frag} {H : Hp} {v : V} {d : PyData} (h : Dp K H v d) : TyX K H v (.type (tyD d)) := by
  cases h with
  | non => exact .base .non
  | bl b => exact .base (.bl b)
  | int i => exact .base (.int i)
  | str x => exact .base (.str x)
  | lst h _ =>
    rcases h with (h | ⟨o, h⟩) | ⟨o, _, _, e, c, _⟩
    · exact .base (.lst h)
    · exact .base (.frz h)
    · exact .kList e c
  | tup h _ => exact isi_tuple h
def isTup : PyData → Bool
  | .tuple _ => true
  | _ => false
def isIntB : PyData → Bool
  | .int _ => true
  | .bool _ => true
  | _ => false
def isBl : PyData → Bool
  | .bool _ => true
  | _ => false
def isNum : PyData → Bool
  | .int _ => true
  | _ => false
theorem kit_tup {K : PySem.W.Frag} (d : PyData) : PySem.W.kitOne K (.type (tyD d)) (.type "tuple") = some (isTup d) := by
  cases d with
  | none => exact kit_ty (show kitB "NoneType" "tuple" = some false by decide +kernel)
  | bool b => exact kit_ty (show kitB "bool" "tuple" = some false by decide +kernel)
  | int i => exact kit_ty (show kitB "int" "tuple" = some false by decide +kernel)
  | str z => exact kit_ty (show kitB "str" "tuple" = some false by decide +kernel)
  | list l => exact kit_ty (show kitB "list" "tuple" = some false by decide +kernel)
  | tuple l => exact kit_ty (show kitB "tuple" "tuple" = some true by decide +kernel)
  | dict l => exact kit_ty (show kitB "dict" "tuple" = some false by decide +kernel)
theorem kit_int {K : PySem.W.Frag} (d : PyData) : PySem.W.kitOne K (.type (tyD d)) (.type "int") = some (isIntB d) := by
  cases d with
  | none => exact kit_ty (show kitB "NoneType" "int" = some false by decide +kernel)
  | bool b => exact kit_ty (show kitB "bool" "int" = some true by decide +kernel)
  | int i => exact kit_ty (show kitB "int" "int" = some true by decide +kernel)
  | str z => exact kit_ty (show kitB "str" "int" = some false by decide +kernel)
  | list l => exact kit_ty (show kitB "list" "int" = some false by decide +kernel)
  | tuple l => exact kit_ty (show kitB "tuple" "int" = some false by decide +kernel)
  | dict l => exact kit_ty (show kitB "dict" "int" = some false by decide +kernel)
theorem kit_bool {K : PySem.W.Frag} (d : PyData) : PySem.W.kitOne K (.type (tyD d)) (.type "bool") = some (isBl d) := by
  cases d with
  | none => exact kit_ty (show kitB "NoneType" "bool" = some false by decide +kernel)
  | bool b => exact kit_ty (show kitB "bool" "bool" = some true by decide +kernel)
  | int i => exact kit_ty (show kitB "int" "bool" = some false by decide +kernel)
  | str z => exact kit_ty (show kitB "str" "bool" = some false by decide +kernel)
  | list l => exact kit_ty (show kitB "list" "bool" = some false by decide +kernel)
  | tuple l => exact kit_ty (show kitB "tuple" "bool" = some false by decide +kernel)
  | dict l => exact kit_ty (show kitB "dict" "bool" = some false by decide +kernel)
theorem isTup_not {d : PyData} (h : isTup d = false) : ∀ ds, d ≠ .tuple ds := by
  intro ds z
  subst z
  cases h
theorem isTup_is {d : PyData} (h : isTup d = true) : ∃ ds, d = .tuple ds := by
  cases d with
  | tuple ds => exact ⟨ds, rfl⟩
  | _ => cases h
theorem isNum_is {d : PyData} (h : isNum d = true) : ∃ i, d = .int i := by
  cases d with
  | int i => exact ⟨i, rfl⟩
  | _ => cases h
theorem dp_int {K : PySem.W.Frag} {H : Hp} {v : V} {i : Int} (h : Dp K H v (.int i)) : v = .int i := by cases h; rfl
theorem dp_tup {K : PySem.W.Frag} {H : Hp} {v : V} {ds : List PyData} (h : Dp K H v (.tuple ds)) : ∃ a xs, v = .ref a ∧ SqT K H a xs ∧ DpAll K H xs ds := by
  cases h with
  | tup h1 h2 => exact ⟨_, _, rfl, h1, h2⟩
/-! ### numbers, places, lots -/
def numOf : PyData → Int
  | .int i => i
  | _ => 0
def numIn (lo hi : Int) (d : PyData) : Bool := isNum d && (decide (lo ≤ numOf d) && decide (numOf d ≤ hi))
theorem numIn_is {lo hi : Int} {d : PyData} (h : numIn lo hi d = true) : ∃ i, d = .int i ∧ lo ≤ i ∧ i ≤ hi := by
  unfold numIn at h
  simp only [Bool.and_eq_true, decide_eq_true_eq] at h
  obtain ⟨i, rfl⟩ := isNum_is h.1
  exact ⟨i, rfl, h.2.1, h.2.2⟩
theorem numIn_int {lo hi i : Int} : numIn lo hi (.int i) = true ↔ lo ≤ i ∧ i ≤ hi := by
  unfold numIn
  simp only [isNum, numOf, Bool.true_and, Bool.and_eq_true]
  exact ⟨fun h => ⟨of_decide_eq_true h.1, of_decide_eq_true h.2⟩, fun h => ⟨decide_eq_true h.1, decide_eq_true h.2⟩⟩
def nD (n : Nat) : PyData := .int (n : Int)
theorem numIn_nat {lo hi : Int} {n : Nat} : numIn lo hi (nD n) = true ↔ lo ≤ (n : Int) ∧ (n : Int) ≤ hi := numIn_int
theorem dp_nat {K : PySem.W.Frag} {H : Hp} (n : Nat) : Dp K H (vN n) (nD n) := .int _
theorem dp_nats {K : PySem.W.Frag} {H : Hp} : ∀ (ws : List Nat), DpAll K H (ws.map vN) (ws.map nD)
  | [] => .nil
  | _ :: ws => .cons (dp_nat _) (dp_nats ws)
theorem nats_dp {K : PySem.W.Frag} {H : Hp} : ∀ {ws : List Nat} {xs : List V}, DpAll K H xs (ws.map nD) → xs = ws.map vN
  | [], _, h => by cases h; rfl
  | w :: ws, _, h => by
    cases h with
    | cons h1 h2 =>
      have := nats_dp (ws := ws) h2
      subst this
      cases h1
      rfl
def lotD (ws : List Nat) : PyData := .tuple (ws.map nD)
theorem dp_lot {K : PySem.W.Frag} {H : Hp} {a : Addr} {ws : List Nat} (h : SqT K H a (ws.map vN)) : Dp K H (.ref a) (lotD ws) := .tup h (dp_nats ws)
theorem lot_dp {K : PySem.W.Frag} {H : Hp} {v : V} {ws : List Nat} (h : Dp K H v (lotD ws)) : ∃ a, v = .ref a ∧ SqT K H a (ws.map vN) := by
  obtain ⟨a, xs, rfl, h1, h2⟩ := dp_tup h
  rw [nats_dp h2] at h1
  exact ⟨a, rfl, h1⟩
/-- the first that is no place or not above the one before it -/
def badPlace (n : Nat) : Int → Nat → List PyData → Option Nat
  | _, _, [] => none
  | b, i, d :: ds => if numIn (b + 1) ((n : Int) - 1) d = true then badPlace n (numOf d) (i + 1) ds else some i
theorem badPlace_ok {n : Nat} : ∀ {ws : List Nat} {b : Int} {i : Nat}, ws.Pairwise (· < ·) → (∀ x ∈ ws, x < n) → (∀ x ∈ ws, b < (x : Int)) → badPlace n b i (ws.map nD) = none
  | [], _, _, _, _, _ => rfl
  | w :: ws, b, i, up, lt, ab => by
    have h1 := lt w List.mem_cons_self
    have h2 := ab w List.mem_cons_self
    show (if numIn (b + 1) ((n : Int) - 1) (nD w) = true then badPlace n (numOf (nD w)) (i + 1) (ws.map nD) else some i) = none
    rw [if_pos (numIn_nat.mpr ⟨by omega, by omega⟩)]
    obtain ⟨u1, u2⟩ := List.pairwise_cons.mp up
    exact badPlace_ok u2 (fun x hx => lt x (List.mem_cons_of_mem _ hx)) fun x hx => by
      have := u1 x hx
      show (w : Int) < x
      omega
theorem badPlace_none {n : Nat} : ∀ {ds : List PyData} {b : Int} {i : Nat}, -1 ≤ b → badPlace n b i ds = none → ∃ ws : List Nat, ds = ws.map nD ∧ ws.Pairwise (· < ·) ∧ (∀ x ∈ ws, x < n) ∧ ∀ x ∈ ws, b < (x : Int)
  | [], _, _, _, _ => ⟨[], rfl, List.Pairwise.nil, (fun _ h => nomatch h), (fun _ h => nomatch h)⟩
  | d :: ds, b, i, hb, h => by
    unfold badPlace at h
    by_cases c : numIn (b + 1) ((n : Int) - 1) d = true
    · rw [if_pos c] at h
      obtain ⟨x, rfl, l1, l2⟩ := numIn_is c
      obtain ⟨ws, rfl, up, lt, ab⟩ := badPlace_none (b := x) (by omega) h
      refine ⟨x.toNat :: ws, ?_, List.pairwise_cons.mpr ⟨fun y hy => ?_, up⟩, fun y hy => ?_, fun y hy => ?_⟩
      · have : (x.toNat : Int) = x := by omega
        simp only [List.map_cons, nD]
        rw [this]
      · have := ab y hy
        omega
      · rcases List.mem_cons.mp hy with rfl | hy
        · omega
        · exact lt y hy
      · rcases List.mem_cons.mp hy with rfl | hy
        · omega
        · have := ab y hy
          omega
    · rw [if_neg c] at h
      cases h
def lotOk (n : Nat) : PyData → Bool
  | .tuple ds => (badPlace n (-1) 0 ds).isNone
  | _ => false
theorem lotOk_lot {n : Nat} {ws : List Nat} (up : ws.Pairwise (· < ·)) (lt : ∀ x ∈ ws, x < n) : lotOk n (lotD ws) = true := by
  unfold lotOk lotD
  simp only []
  rw [badPlace_ok up lt (fun x _ => by omega)]
  rfl
theorem lotOk_is {n : Nat} {d : PyData} (h : lotOk n d = true) : ∃ ws, d = lotD ws ∧ ws.Pairwise (· < ·) ∧ ∀ x ∈ ws, x < n := by
  cases d with
  | tuple ds =>
    unfold lotOk at h
    simp only [Option.isNone_iff_eq_none] at h
    obtain ⟨ws, rfl, up, lt, _⟩ := badPlace_none (by omega) h
    exact ⟨ws, rfl, up, lt⟩
  | _ => cases h
def optI : Option Nat → Option Int
  | none => none
  | some i => some (i : Int)
theorem optI_none {o : Option Nat} (h : optI o = none) : o = none := by
  cases o with
  | none => rfl
  | some i => cases h
/-! ### roads -/
def pairD (p : Nat × Nat) : PyData := .tuple [nD p.1, nD p.2]
def pairOf (n : Nat) : PyData → Option (Nat × Nat)
  | .tuple [a, b] => if (numIn 0 ((n : Int) - 1) a && numIn 0 ((n : Int) - 1) b) = true then some ((numOf a).toNat, (numOf b).toNat) else none
  | _ => none
theorem pairOf_pair {n : Nat} {p : Nat × Nat} (h : p.1 < n ∧ p.2 < n) : pairOf n (pairD p) = some p := by
  unfold pairOf pairD
  simp only []
  rw [if_pos]
  · rfl
  · rw [Bool.and_eq_true, numIn_nat, numIn_nat]
    omega
theorem pairOf_is {n : Nat} {d : PyData} {p : Nat × Nat} (h : pairOf n d = some p) : d = pairD p ∧ p.1 < n ∧ p.2 < n := by
  unfold pairOf at h
  split at h
  · rename_i a b
    split at h
    · rename_i c
      rw [Bool.and_eq_true] at c
      obtain ⟨i, rfl, i1, i2⟩ := numIn_is c.1
      obtain ⟨j, rfl, j1, j2⟩ := numIn_is c.2
      cases h
      refine ⟨?_, ?_, ?_⟩
      · unfold pairD nD
        simp only [numOf]
        rw [show ((i.toNat : Nat) : Int) = i by omega, show ((j.toNat : Nat) : Int) = j by omega]
      · simp only [numOf]
        omega
      · simp only [numOf]
        omega
    · cases h
  · cases h
instance (p q : Nat × Nat) : Decidable (ltP p q) := by unfold ltP; exact inferInstance
def above (p : Option (Nat × Nat)) (q : Nat × Nat) : Bool := match p with
  | none => true
  | some p => decide (ltP p q)
def badRoad (n : Nat) : Option (Nat × Nat) → Nat → List PyData → Option Nat
  | _, _, [] => none
  | p, i, d :: ds => match pairOf n d with
    | none => some i
    | some q => if above p q = true then badRoad n (some q) (i + 1) ds else some i
theorem badRoad_ok {n : Nat} : ∀ {ps : List (Nat × Nat)} {p : Option (Nat × Nat)} {i : Nat}, ps.Pairwise ltP → (∀ q ∈ ps, q.1 < n ∧ q.2 < n) → (∀ q ∈ ps, above p q = true) → badRoad n p i (ps.map pairD) = none
  | [], _, _, _, _, _ => rfl
  | q :: ps, p, i, up, lt, ab => by
    obtain ⟨u1, u2⟩ := List.pairwise_cons.mp up
    show (match pairOf n (pairD q) with
      | none => some i
      | some q => if above p q = true then badRoad n (some q) (i + 1) (ps.map pairD) else some i) = none
    rw [pairOf_pair (lt q List.mem_cons_self)]
    simp only []
    rw [if_pos (ab q List.mem_cons_self)]
    exact badRoad_ok u2 (fun x hx => lt x (List.mem_cons_of_mem _ hx)) fun x hx => decide_eq_true (u1 x hx)
theorem ltP_trans {a b c : Nat × Nat} (h1 : ltP a b) (h2 : ltP b c) : ltP a c := by
  unfold ltP at *
  omega
theorem badRoad_none {n : Nat} : ∀ {ds : List PyData} {p : Option (Nat × Nat)} {i : Nat}, badRoad n p i ds = none → ∃ ps : List (Nat × Nat), ds = ps.map pairD ∧ ps.Pairwise ltP ∧ (∀ q ∈ ps, q.1 < n ∧ q.2 < n) ∧ ∀ q ∈ ps, above p q = true
  | [], _, _, _ => ⟨[], rfl, List.Pairwise.nil, (fun _ h => nomatch h), (fun _ h => nomatch h)⟩
  | d :: ds, p, i, h => by
    unfold badRoad at h
    cases e : pairOf n d with
    | none => rw [e] at h; cases h
    | some q =>
      rw [e] at h
      simp only [] at h
      obtain ⟨e1, e2⟩ := pairOf_is e
      subst e1
      by_cases c : above p q = true
      · rw [if_pos c] at h
        obtain ⟨ps, rfl, up, lt, ab⟩ := badRoad_none h
        have ab' : ∀ x ∈ ps, ltP q x := fun x hx => of_decide_eq_true (ab x hx)
        refine ⟨q :: ps, rfl, List.pairwise_cons.mpr ⟨ab', up⟩, fun x hx => ?_, fun x hx => ?_⟩
        · rcases List.mem_cons.mp hx with rfl | hx
          · exact e2
          · exact lt x hx
        · rcases List.mem_cons.mp hx with rfl | hx
          · exact c
          · cases p with
            | none => rfl
            | some p => exact decide_eq_true (ltP_trans (of_decide_eq_true c) (ab' x hx))
      · rw [if_neg c] at h
        cases h
def roadsErr (n : Nat) : PyData → Option Int
  | .tuple ds => if ds.length ≤ 240 then optI (badRoad n none 0 ds) else some (-3)
  | _ => some (-3)
/-! ### maps -/
def chartD (C : Chart) : PyData := .tuple [nD C.n, .tuple (C.roads.map pairD), lotD C.wished]
def wishErr (n : Nat) : PyData → Option Int
  | .tuple ds => optI (badPlace n (-1) 0 ds)
  | _ => some (-1)
def mapErr3 (p r w : PyData) : Option (Str × Int) :=
  if numIn 0 60 p = true then
    match roadsErr (numOf p).toNat r with
    | some i => some ("BadMap", i)
    | none => (wishErr (numOf p).toNat w).map fun i => ("BadWish", i)
  else some ("BadMap", -2)
def mapErr : PyData → Option (Str × Int)
  | .tuple [p, r, w] => mapErr3 p r w
  | _ => some ("BadMap", -1)
theorem mapErr_chart {C : Chart} (ok : C.Ok) : mapErr (chartD C) = none := by
  have n60 := ok.n60
  unfold chartD mapErr mapErr3
  simp only []
  rw [if_pos (by rw [numIn_nat]; omega)]
  have e : (numOf (nD C.n)).toNat = C.n := by simp [nD, numOf]
  rw [e]
  have e1 : roadsErr C.n (.tuple (C.roads.map pairD)) = none := by
    unfold roadsErr
    simp only []
    rw [if_pos (by rw [List.length_map]; exact ok.many), badRoad_ok ok.upR ok.inR (fun _ _ => rfl)]
    rfl
  have e2 : wishErr C.n (lotD C.wished) = none := by
    unfold wishErr lotD
    simp only []
    rw [badPlace_ok ok.upW ok.inW (fun _ _ => by omega)]
    rfl
  rw [e1, e2]
  rfl
theorem mapErr3_none {p r w : PyData} (h : mapErr3 p r w = none) : ∃ C : Chart, C.Ok ∧ p = nD C.n ∧ r = .tuple (C.roads.map pairD) ∧ w = lotD C.wished := by
  unfold mapErr3 at h
  split at h
  · rename_i c
    obtain ⟨i, rfl, i1, i2⟩ := numIn_is c
    have ei : ((numOf (PyData.int i)).toNat : Int) = i := by simp only [numOf]; omega
    cases e : roadsErr (numOf (.int i)).toNat r with
    | some j => rw [e] at h; cases h
    | none =>
      rw [e] at h
      simp only [Option.map_eq_none_iff] at h
      cases r with
      | tuple rs =>
        unfold roadsErr at e
        simp only [] at e
        split at e
        · rename_i l
          have e := optI_none e
          obtain ⟨ps, rfl, up, lt, _⟩ := badRoad_none e
          cases w with
          | tuple ws =>
            unfold wishErr at h
            have h := optI_none h
            obtain ⟨vs, rfl, upv, ltv, _⟩ := badPlace_none (by omega) h
            refine ⟨⟨(numOf (.int i)).toNat, ps, vs⟩, ⟨?_, ?_, lt, up, ltv, upv⟩, ?_, rfl, rfl⟩
            · show (numOf (.int i)).toNat ≤ 60
              omega
            · rw [List.length_map] at l
              exact l
            · show PyData.int i = .int ((numOf (.int i)).toNat : Int)
              rw [ei]
          | _ => cases h
        · cases e
      | _ => cases e
  · cases h
theorem mapErr_none {d : PyData} (h : mapErr d = none) : ∃ C : Chart, C.Ok ∧ d = chartD C := by
  unfold mapErr at h
  split at h
  · obtain ⟨C, ok, rfl, rfl, rfl⟩ := mapErr3_none h
    exact ⟨C, ok, rfl⟩
  · cases h
theorem dp_pairs {K : PySem.W.Frag} {H : Hp} : ∀ {ts : List Addr} {ps : List (Nat × Nat)}, PairsAt K H ts ps → DpAll K H (ts.map V.ref) (ps.map pairD)
  | _, _, .nil => .nil
  | _, _, .cons r t => .cons (.tup r (.cons (dp_nat _) (.cons (dp_nat _) .nil))) (dp_pairs t)
theorem pairs_dp {K : PySem.W.Frag} {H : Hp} : ∀ {ps : List (Nat × Nat)} {xs : List V}, DpAll K H xs (ps.map pairD) → ∃ ts, xs = ts.map V.ref ∧ PairsAt K H ts ps
  | [], _, h => by cases h; exact ⟨[], rfl, .nil⟩
  | p :: ps, _, h => by
    cases h with
    | cons h1 h2 =>
      obtain ⟨ts, rfl, q⟩ := pairs_dp (ps := ps) h2
      obtain ⟨a, xs, rfl, hs, ha⟩ := dp_tup h1
      have e : xs = [p.1, p.2].map vN := nats_dp (ws := [p.1, p.2]) ha
      subst e
      exact ⟨a :: ts, rfl, .cons hs q⟩
theorem dp_chart {K : PySem.W.Frag} {H : Hp} {c : Addr} {C : Chart} (h : IsChart K H c C) : Dp K H (.ref c) (chartD C) := by
  obtain ⟨r, w, ts, q⟩ := h
  exact .tup q.top (.cons (dp_nat _) (.cons (.tup q.row (dp_pairs q.prs)) (.cons (dp_lot q.wis) .nil)))
theorem chart_dp {K : PySem.W.Frag} {H : Hp} {v : V} {C : Chart} (h : Dp K H v (chartD C)) : ∃ c, v = .ref c ∧ IsChart K H c C := by
  obtain ⟨c, xs, rfl, hs, ha⟩ := dp_tup h
  cases ha with
  | cons h1 ha =>
    cases ha with
    | cons h2 ha =>
      cases ha with
      | cons h3 ha =>
        cases ha
        cases h1
        obtain ⟨r, ys, rfl, hr, har⟩ := dp_tup h2
        obtain ⟨w, rfl, hw⟩ := lot_dp h3
        obtain ⟨ts, rfl, pr⟩ := pairs_dp har
        exact ⟨c, rfl, r, w, ts, hs, hr, pr, hw⟩
/-! ### standings -/
/-- the first that is no place -/
def noPlace (n : Nat) : Nat → List PyData → Option Nat
  | _, [] => none
  | i, d :: ds => if numIn 0 ((n : Int) - 1) d = true then noPlace n (i + 1) ds else some i
def standErr (n : Nat) : PyData → Option Int
  | .tuple ds => if 1 ≤ ds.length ∧ ds.length ≤ 3 then optI (noPlace n 0 ds) else some (-1)
  | _ => some (-1)
theorem noPlace_ok {n : Nat} : ∀ {ws : List Nat} {i : Nat}, (∀ x ∈ ws, x < n) → noPlace n i (ws.map nD) = none
  | [], _, _ => rfl
  | w :: ws, i, lt => by
    have h1 := lt w List.mem_cons_self
    show (if numIn 0 ((n : Int) - 1) (nD w) = true then noPlace n (i + 1) (ws.map nD) else some i) = none
    rw [if_pos (numIn_nat.mpr ⟨by omega, by omega⟩)]
    exact noPlace_ok fun x hx => lt x (List.mem_cons_of_mem _ hx)
theorem noPlace_none {n : Nat} : ∀ {ds : List PyData} {i : Nat}, noPlace n i ds = none → ∃ ws : List Nat, ds = ws.map nD ∧ ∀ x ∈ ws, x < n
  | [], _, _ => ⟨[], rfl, (fun _ h => nomatch h)⟩
  | d :: ds, i, h => by
    unfold noPlace at h
    by_cases c : numIn 0 ((n : Int) - 1) d = true
    · rw [if_pos c] at h
      obtain ⟨x, rfl, l1, l2⟩ := numIn_is c
      obtain ⟨ws, rfl, lt⟩ := noPlace_none h
      refine ⟨x.toNat :: ws, ?_, fun y hy => ?_⟩
      · have : (x.toNat : Int) = x := by omega
        simp only [List.map_cons, nD]
        rw [this]
      · rcases List.mem_cons.mp hy with rfl | hy
        · omega
        · exact lt y hy
    · rw [if_neg c] at h
      cases h
theorem standErr_ok {n : Nat} {S : List Nat} (lt : ∀ x ∈ S, x < n) (l1 : 1 ≤ S.length) (l3 : S.length ≤ 3) : standErr n (lotD S) = none := by
  unfold standErr lotD
  simp only []
  rw [if_pos (by rw [List.length_map]; exact ⟨l1, l3⟩), noPlace_ok lt]
  rfl
theorem standErr_none {n : Nat} {d : PyData} (h : standErr n d = none) : ∃ S : List Nat, d = lotD S ∧ (∀ x ∈ S, x < n) ∧ 1 ≤ S.length ∧ S.length ≤ 3 := by
  cases d with
  | tuple ds =>
    unfold standErr at h
    simp only [] at h
    split at h
    · rename_i c
      have h := optI_none h
      obtain ⟨ws, rfl, lt⟩ := noPlace_none h
      rw [List.length_map] at c
      exact ⟨ws, rfl, lt, c.1, c.2⟩
    · cases h
  | _ => cases h
end Ft

set_option Elab.async false
set_option linter.all false
set_option maxRecDepth 100000
set_option maxHeartbeats 4000000
namespace Ft
open PySem PySem.Spec PyProof.Rows L2
theorem Er.g {P : Program} {w : World} {K : PySem.W.Frag} {mg : Str → Option Value} {base : Heap} {ca : Str → Addr} {x : Str} (e : Er P w K mg base ca x) : mg x = some (.ref (ca x)) := let ⟨_, _, h, _⟩ := e.ex; h.g
/-- the errors of a class keep what they were made with -/
structure WhatC (K : PySem.W.Frag) (C : Addr) : Prop where
  xf : XfC K C
  no : PySem.W.findIn K (.ref C) "what" = some none
theorem Er.w {P : Program} {w : World} {K : PySem.W.Frag} {mg : Str → Option Value} {base : Heap} {ca : Str → Addr} {x : Str} (e : Er P w K mg base ca x) : WhatC K (ca x) := let ⟨_, _, h, _⟩ := e.ex; ⟨h.xf, h.noW⟩
/-- error.what, in the suite of a clause -/
def tWhat (K : PySem.W.Frag) (a : Addr) (cls : Value) (d : Option Addr) (te : TE) : TE := fun σ H Q => te σ H fun x H1 => x = .ref a ∧ ∃ (C dd : Addr) (v : V), cls = .ref C ∧ WhatC K C ∧ d = some dd ∧ H1 dd = some (.xd [("what", v)]) ∧ Q v H1
theorem pe_what {X : Cx} {a : Addr} {oe : Obj} {cls : Value} {d : Option Addr} {pn : List (Addr × Obj)} {e : Expr} {te : TE} {pos : Pos}
    (hz : Zc cls d oe) (hf : ∃ vs, oe.data = .fields vs) (he : PE (X.suite a ((a, oe) :: pn)) e te) (hb : attributeBase e "what" X.env (eval e X.env) = eval e X.env := by rfl) :
    PE (X.suite a ((a, oe) :: pn)) (.Attribute e "what" pos) (tWhat X.K a cls d te) := by
  refine ⟨fun pins s σ H Q I h => ?_⟩
  have he2 : PE (X.suite a ((a, oe) :: pn)) e (fun σ H Q => ∃ M : V → Hp → Prop, te σ H M ∧ ∀ v H', M v H' → Q v H') := ⟨fun pins s σ H Q I ⟨M, hm, hu⟩ => thn (he.run pins s σ H M I hm) fun u s1 ⟨v, H1, I1, r, m⟩ => ⟨v, H1, I1, r, hu v H1 m⟩⟩
  refine attr_of hb (thn (he2.run pins s σ H (fun x H1 => x = .ref a ∧ ∃ (C dd : Addr) (v : V), cls = .ref C ∧ WhatC X.K C ∧ d = some dd ∧ H1 dd = some (.xd [("what", v)]) ∧ Q v H1) I ⟨_, h, fun _ _ z => z⟩) fun u s1 hh => ?_)
  obtain ⟨x, H1, I1, rx, ex, C, dd, v, ec, T, ed, ea, q⟩ := hh
  subst ex
  obtain rfl : u = Value.ref a := rx
  subst ec
  subst ed
  obtain ⟨ha, _⟩ := I1.pin (a, oe) (List.mem_append_left _ List.mem_cons_self)
  obtain ⟨vs, hd⟩ := hf
  have hx : ObjOk X.prog X.w H1 s1.heap dd (.xd [("what", v)]) := I1.hok dd _ ea
  obtain ⟨mA, hns, hr⟩ := hx
  obtain ⟨od, ho, hl⟩ := lookIn_ns hns
  have l : List.lookup ("what" : Str) [(("what" : Str), v)] = some v := by simp [List.lookup]
  obtain ⟨u, hu, ru⟩ := RelO.some_of (v := v) (o := mA "what") (by rw [← l]; exact hr "what")
  have J : PySem.W.InstAt s1.heap a oe C (some od) := ⟨ha, hz.1, by unfold PySem.W.notCls; rw [hd] <;> rfl, by rw [hz.2]; exact ho⟩
  exact HandSPX.exc_get I1.kIn J T.xf.ga T.xf.gg T.xf.exC (PySem.W.findObj_own T.xf.hdC T.no rfl (by rw [hl, hu])) (handed_of ru) ⟨v, H1, I1.tok _, ru, q⟩
/-- an error of the class c is one that «except d» names, or is not -/
def Exm (K : PySem.W.Frag) (ca : Str → Addr) (c d : Str) (b : Bool) : Prop := PySem.W.exmOne K (.ref (ca c)) (.ref (ca d)) = some b
/-- a module's number -/
def MgI (mg : Str → Option Value) (x : Str) (n : Int) : Prop := ∃ t, mg x = some (.int n t)
theorem pe_globI {X : Cx} {x : Str} {n : Int} {pos : Pos} (hg : Gl X x) (h : MgI X.mg x n) (hd : (x == ("__debug__" : Str)) = false := by decide) : PE X (.Name x pos) (tC (.int n)) := by
  obtain ⟨t, h⟩ := h
  exact pe_glob (v := .int n) hg h ⟨_, rfl⟩ hd
end Ft

set_option Elab.async false
set_option linter.all false
set_option maxRecDepth 100000
set_option maxHeartbeats 4000000
namespace Ft
open PySem PySem.Spec PyProof.Rows L2
def top (i : Nat) : Stmt := PySem.Challenge.pw_fewtraps_k87_cuts_without_members.main.body.getD i (.Pass ⟨0, 0, 0, 0⟩)
abbrev s_made_map : Stmt := top 10
theorem sc_made_map : FnScope ["thing", "places", "roads", "wished", "index"] ["thing"] (L2.defScope s_made_map) := ⟨rfl, rfl, rfl, by decide +kernel, rfl, by decide +kernel, by decide +kernel⟩
abbrev s_is_number : Stmt := top 11
theorem sc_is_number : FnScope ["thing"] ["thing"] (L2.defScope s_is_number) := ⟨rfl, rfl, rfl, by decide +kernel, rfl, by decide +kernel, by decide +kernel⟩
abbrev s_number_within : Stmt := top 12
theorem sc_number_within : FnScope ["thing", "low", "high"] ["thing", "low", "high"] (L2.defScope s_number_within) := ⟨rfl, rfl, rfl, by decide +kernel, rfl, by decide +kernel, by decide +kernel⟩
abbrev s_first_bad_place : Stmt := top 13
theorem sc_first_bad_place : FnScope ["places", "items", "before", "index", "item"] ["places", "items"] (L2.defScope s_first_bad_place) := ⟨rfl, rfl, rfl, by decide +kernel, rfl, by decide +kernel, by decide +kernel⟩
abbrev s_check_roads : Stmt := top 14
theorem sc_check_roads : FnScope ["places", "roads", "index", "road"] ["places", "roads"] (L2.defScope s_check_roads) := ⟨rfl, rfl, rfl, by decide +kernel, rfl, by decide +kernel, by decide +kernel⟩
abbrev s_road_fits : Stmt := top 15
theorem sc_road_fits : FnScope ["places", "thing"] ["places", "thing"] (L2.defScope s_road_fits) := ⟨rfl, rfl, rfl, by decide +kernel, rfl, by decide +kernel, by decide +kernel⟩
abbrev s_place_fits : Stmt := top 16
theorem sc_place_fits : FnScope ["chart", "thing"] ["chart", "thing"] (L2.defScope s_place_fits) := ⟨rfl, rfl, rfl, by decide +kernel, rfl, by decide +kernel, by decide +kernel⟩
abbrev s_lot_fits : Stmt := top 17
theorem sc_lot_fits : FnScope ["chart", "thing"] ["chart", "thing"] (L2.defScope s_lot_fits) := ⟨rfl, rfl, rfl, by decide +kernel, rfl, by decide +kernel, by decide +kernel⟩
abbrev s_check_lot : Stmt := top 18
theorem sc_check_lot : FnScope ["chart", "thing"] ["chart", "thing"] (L2.defScope s_check_lot) := ⟨rfl, rfl, rfl, by decide +kernel, rfl, by decide +kernel, by decide +kernel⟩
abbrev s_roads_from : Stmt := top 19
theorem sc_roads_from : FnScope ["chart", "targets", "a", "b", "_"] ["chart"] (L2.defScope s_roads_from) := ⟨rfl, rfl, rfl, by decide +kernel, rfl, by decide +kernel, by decide +kernel⟩
abbrev s_unwished_of : Stmt := top 20
theorem sc_unwished_of : FnScope ["chart", "wished", "place"] ["chart"] (L2.defScope s_unwished_of) := ⟨rfl, rfl, rfl, by decide +kernel, rfl, by decide +kernel, by decide +kernel⟩
abbrev s_cuts : Stmt := top 22
theorem sc_cuts : FnScope ["chart", "traps", "lot"] ["chart", "traps", "lot"] (L2.defScope s_cuts) := ⟨rfl, rfl, rfl, by decide +kernel, rfl, by decide +kernel, by decide +kernel⟩
abbrev s_missed : Stmt := top 23
theorem sc_missed : FnScope ["chart", "traps", "lot", "left", "targets", "starts", "many", "place", "walk", "a", "b"] ["chart", "traps", "lot"] (L2.defScope s_missed) := ⟨rfl, rfl, rfl, by decide +kernel, rfl, by decide +kernel, by decide +kernel⟩
abbrev s_roads_left : Stmt := top 24
theorem sc_roads_left : FnScope ["chart", "traps", "stopped", "left", "passed", "latest", "many", "place", "a", "b"] ["chart", "traps"] (L2.defScope s_roads_left) := ⟨rfl, rfl, rfl, by decide +kernel, rfl, by decide +kernel, by decide +kernel⟩
abbrev s_reached : Stmt := top 26
theorem sc_reached : FnScope ["chart", "starts", "targets", "wished", "found", "waiting", "place", "target"] ["chart", "starts"] (L2.defScope s_reached) := ⟨rfl, rfl, rfl, by decide +kernel, rfl, by decide +kernel, by decide +kernel⟩
abbrev s_reached_unwished : Stmt := top 27
theorem sc_reached_unwished : FnScope ["chart", "starts", "wished", "place"] ["chart", "starts"] (L2.defScope s_reached_unwished) := ⟨rfl, rfl, rfl, by decide +kernel, rfl, by decide +kernel, by decide +kernel⟩
abbrev s_piece_table : Stmt := top 29
theorem sc_piece_table : FnScope ["chart", "unwished", "comes_to", "table", "a", "b"] ["chart"] (L2.defScope s_piece_table) := ⟨rfl, rfl, rfl, by decide +kernel, rfl, by decide +kernel, by decide +kernel⟩
abbrev s_made_standing : Stmt := top 31
theorem sc_made_standing : FnScope ["chart", "thing", "index", "place"] ["chart", "thing"] (L2.defScope s_made_standing) := ⟨rfl, rfl, rfl, by decide +kernel, rfl, by decide +kernel, by decide +kernel⟩
abbrev s_members : Stmt := top 32
theorem sc_members : FnScope ["chart", "standing", "table", "place", "member"] ["chart", "standing"] (L2.defScope s_members) := ⟨rfl, rfl, rfl, by decide +kernel, rfl, by decide +kernel, by decide +kernel⟩
abbrev s_law_pool : Stmt := top 34
theorem sc_law_pool : FnScope ["script", "first", "size"] ["script"] (L2.defScope s_law_pool) := ⟨rfl, rfl, rfl, by decide +kernel, rfl, by decide +kernel, by decide +kernel⟩
abbrev s_law_draw : Stmt := top 35
theorem sc_law_draw : FnScope ["pool", "many", "cell", "size", "found"] ["pool", "many"] (L2.defScope s_law_draw) := ⟨rfl, rfl, rfl, by decide +kernel, rfl, by decide +kernel, by decide +kernel⟩
abbrev s_law_pick : Stmt := top 36
theorem sc_law_pick : FnScope ["pool", "things"] ["pool", "things"] (L2.defScope s_law_pick) := ⟨rfl, rfl, rfl, by decide +kernel, rfl, by decide +kernel, by decide +kernel⟩
abbrev s_law_turned : Stmt := top 37
theorem sc_law_turned : FnScope ["pool", "many", "left", "found", "turn"] ["pool", "many"] (L2.defScope s_law_turned) := ⟨rfl, rfl, rfl, by decide +kernel, rfl, by decide +kernel, by decide +kernel⟩
abbrev s_law_map_named : Stmt := top 38
theorem sc_law_map_named : FnScope ["pool", "places", "roads", "wished", "names", "told", "a", "b"] ["pool", "places", "roads", "wished"] (L2.defScope s_law_map_named) := ⟨rfl, rfl, rfl, by decide +kernel, rfl, by decide +kernel, by decide +kernel⟩
abbrev s_law_map_some_wished : Stmt := top 39
theorem sc_law_map_some_wished : FnScope ["pool", "places", "roads", "way", "last", "a", "road"] ["pool", "places", "roads"] (L2.defScope s_law_map_some_wished) := ⟨rfl, rfl, rfl, by decide +kernel, rfl, by decide +kernel, by decide +kernel⟩
abbrev s_law_map_drawn : Stmt := top 40
theorem sc_law_map_drawn : FnScope ["pool", "most", "places", "way", "roads", "turn", "a", "b", "ahead", "size"] ["pool", "most"] (L2.defScope s_law_map_drawn) := ⟨rfl, rfl, rfl, by decide +kernel, rfl, by decide +kernel, by decide +kernel⟩
abbrev s_law_map_lot : Stmt := top 41
theorem sc_law_map_lot : FnScope ["pool", "chart", "way", "a"] ["pool", "chart"] (L2.defScope s_law_map_lot) := ⟨rfl, rfl, rfl, by decide +kernel, rfl, by decide +kernel, by decide +kernel⟩
abbrev s_law_map_standing : Stmt := top 42
theorem sc_law_map_standing : FnScope ["pool", "chart", "most", "found", "turn"] ["pool", "chart", "most"] (L2.defScope s_law_map_standing) := ⟨rfl, rfl, rfl, by decide +kernel, rfl, by decide +kernel, by decide +kernel⟩
abbrev s_law_map_next : Stmt := top 43
theorem sc_law_map_next : FnScope ["chart", "lot", "found", "a", "b"] ["chart", "lot"] (L2.defScope s_law_map_next) := ⟨rfl, rfl, rfl, by decide +kernel, rfl, by decide +kernel, by decide +kernel⟩
abbrev s_law_map_met : Stmt := top 44
theorem sc_law_map_met : FnScope ["chart", "a", "found", "left", "turn", "ahead", "road", "b"] ["chart", "a"] (L2.defScope s_law_map_met) := ⟨rfl, rfl, rfl, by decide +kernel, rfl, by decide +kernel, by decide +kernel⟩
abbrev s_law_map_table : Stmt := top 45
theorem sc_law_map_table : FnScope ["chart", "a"] ["chart"] (L2.defScope s_law_map_table) := ⟨rfl, rfl, rfl, by decide +kernel, rfl, by decide +kernel, by decide +kernel⟩
abbrev s_law_map_piece : Stmt := top 46
theorem sc_law_map_piece : FnScope ["chart", "table", "a", "b"] ["chart", "table", "a"] (L2.defScope s_law_map_piece) := ⟨rfl, rfl, rfl, by decide +kernel, rfl, by decide +kernel, by decide +kernel⟩
abbrev s_law_map_members : Stmt := top 47
theorem sc_law_map_members : FnScope ["chart", "table", "standing", "found", "a"] ["chart", "table", "standing"] (L2.defScope s_law_map_members) := ⟨rfl, rfl, rfl, by decide +kernel, rfl, by decide +kernel, by decide +kernel⟩
abbrev s_law_way_reached : Stmt := top 48
theorem sc_law_way_reached : FnScope ["chart", "traps", "lot", "left", "met", "turn", "ahead", "a", "b"] ["chart", "traps", "lot"] (L2.defScope s_law_way_reached) := ⟨rfl, rfl, rfl, by decide +kernel, rfl, by decide +kernel, by decide +kernel⟩
abbrev s_law_way_cut : Stmt := top 49
theorem sc_law_way_cut : FnScope ["chart", "traps", "lot", "p"] ["chart", "traps", "lot"] (L2.defScope s_law_way_cut) := ⟨rfl, rfl, rfl, by decide +kernel, rfl, by decide +kernel, by decide +kernel⟩
abbrev s_law_bound_tree : Stmt := top 50
theorem sc_law_bound_tree : FnScope ["pool", "most", "roads", "places", "wished", "a", "turn", "way", "road"] ["pool", "most"] (L2.defScope s_law_bound_tree) := ⟨rfl, rfl, rfl, by decide +kernel, rfl, by decide +kernel, by decide +kernel⟩
abbrev s_law_bound_spine : Stmt := top 51
theorem sc_law_bound_spine : FnScope ["pool", "most", "out", "steps", "roads", "places", "a", "turn", "wished", "way"] ["pool", "most"] (L2.defScope s_law_bound_spine) := ⟨rfl, rfl, rfl, by decide +kernel, rfl, by decide +kernel, by decide +kernel⟩
abbrev s_law_bound_chart : Stmt := top 52
theorem sc_law_bound_chart : FnScope ["pool", "most", "way", "chart"] ["pool", "most"] (L2.defScope s_law_bound_chart) := ⟨rfl, rfl, rfl, by decide +kernel, rfl, by decide +kernel, by decide +kernel⟩
abbrev s_law : Stmt := top 53
theorem sc_law : FnScope ["script", "pool", "chart", "table", "standing", "lot", "traps", "out", "inner", "due", "more", "a", "b"] ["script"] (L2.defScope s_law) := ⟨rfl, rfl, rfl, by decide +kernel, rfl, by decide +kernel, by decide +kernel⟩
abbrev s_init : Stmt := L2.inClass (top 1) 0
theorem sc_init : FnScope ["self", "what"] ["self", "what"] (L2.defScope s_init) := ⟨rfl, rfl, rfl, by decide +kernel, rfl, by decide +kernel, by decide +kernel⟩
end Ft

set_option Elab.async false
set_option linter.all false
set_option maxRecDepth 100000
set_option maxHeartbeats 4000000
namespace Ft
open PySem PySem.Spec PyProof.Rows L2
section
variable {P : Program} {w : World} {K : PySem.W.Frag} {mg : Str → Option Value} {base : Heap} {ca : Str → Addr}
/-! ### is_number, number_within, of data -/
def sp_is_number (K : PySem.W.Frag) : Sp := fun vs H Q _ => ∃ (v : V) (d : PyData), vs = [v] ∧ Dp K H v d ∧ Q (.bl (isNum d)) H
theorem cal_is_number (T : Txt mg) (D : Def K mg "is_number" s_is_number) : Cal P w K mg base 1 "is_number" (sp_is_number K) := by
  refine cal_of D sc_is_number (fun _ _ _ _ _ _ us hl => match us, hl with | [_], _ => rfl) (fun vs H Q E h => ?_) (fun f cdv A outer s H vs Q E hr h => ?_)
  · obtain ⟨v, d, rfl, _⟩ := h
    rfl
  · obtain ⟨v, d, rfl, hd, q⟩ := h
    refine ⟨_, (pss_one (ps_ret (pe_and (pe_callB (show CallR _ _ (rIsi K) from call_isi) (by rfl) T.isinstance (by decide +kernel) (pa_cons (pv 0) (pa_cons (pe_bltn (v := .ty "int") (u := .type "int") (by rfl) T.int (by decide +kernel) rfl) pa_nil))) (pe_one (pe_not (pe_callB (show CallR _ _ (rIsi K) from call_isi) (by rfl) T.isinstance (by decide +kernel) (pa_cons (pv 0) (pa_cons (pe_bltn (v := .ty "bool") (u := .type "bool") (by rfl) T.bool (by decide +kernel) rfl) pa_nil)))))))), ?_⟩
    refine ⟨_, rfl, _, _, _, _, isIntB d, rfl, .ty "int", isi_dp hd, kit_int d, isIntB d, rfl, ?_⟩
    cases e : isIntB d with
    | false =>
      have : isNum d = false := by cases d <;> first | rfl | cases e
      rw [this] at q
      exact iteF q
    | true =>
      refine iteT ?_
      refine ⟨_, rfl, _, _, _, _, isBl d, rfl, .ty "bool", isi_dp hd, kit_bool d, isBl d, rfl, ?_⟩
      have : isNum d = !isBl d := by cases d <;> first | rfl | cases e
      rw [this] at q
      exact q
def sp_number_within (K : PySem.W.Frag) : Sp := fun vs H Q _ => ∃ (v : V) (d : PyData) (lo hi : Int), vs = [v, .int lo, .int hi] ∧ Dp K H v d ∧ Q (.bl (numIn lo hi d)) H
theorem cal_number_within (T : Txt mg) (D : Def K mg "number_within" s_number_within) (c_is_number : Cal P w K mg base 1 "is_number" (sp_is_number K)) : Cal P w K mg base 2 "number_within" (sp_number_within K) := by
  refine cal_of D sc_number_within (fun _ _ _ _ _ _ us hl => match us, hl with | [_, _, _], _ => rfl) (fun vs H Q E h => ?_) (fun f cdv A outer s H vs Q E hr h => ?_)
  · obtain ⟨v, d, lo, hi, rfl, _⟩ := h
    rfl
  · obtain ⟨v, d, lo, hi, rfl, hd, q⟩ := h
    refine ⟨_, (pss_one (ps_ret (pe_and (pe_c c_is_number hr (by decide) (by rfl) (pa_cons (pv 0) pa_nil)) (pe_one (pe_chain op_le op_le (pv 1) (pv 0) (pv 2)))))), ?_⟩
    refine ⟨_, rfl, v, d, rfl, hd, isNum d, rfl, ?_⟩
    cases e : isNum d with
    | false =>
      have : numIn lo hi d = false := by unfold numIn; rw [e]; rfl
      rw [this] at q
      exact iteF q
    | true =>
      refine iteT ?_
      obtain ⟨i, rfl⟩ := isNum_is e
      cases dp_int hd
      have e2 : numIn lo hi (.int i) = (decide (lo ≤ i) && decide (i ≤ hi)) := by unfold numIn; rw [e]; rfl
      rw [e2] at q
      refine ⟨_, rfl, _, rfl, _, _, rfl, rfl, _, rfl, ?_⟩
      by_cases h1 : lo ≤ i
      · rw [decide_eq_true h1] at q ⊢
        exact iteT ⟨_, rfl, _, _, rfl, rfl, q⟩
      · rw [decide_eq_false h1] at q ⊢
        exact iteF q
end
end Ft

set_option Elab.async false
set_option linter.all false
set_option maxRecDepth 100000
set_option maxHeartbeats 4000000
namespace Ft
open PySem PySem.Spec PyProof.Rows L2
section
variable {P : Program} {w : World} {K : PySem.W.Frag} {mg : Str → Option Value} {base : Heap} {ca : Str → Addr}
theorem get_map {α β : Type} {f : α → β} {l : List α} {i : Nat} {y : β} (h : (l.map f)[i]? = some y) : ∃ x, l[i]? = some x ∧ y = f x := by
  rw [List.getElem?_map] at h
  cases e : l[i]? with
  | none => rw [e] at h; cases h
  | some x => rw [e] at h; exact ⟨x, rfl, (Option.some.inj h).symm⟩
theorem up_get {ws : List Nat} (up : ws.Pairwise (· < ·)) {i j a b : Nat} (hi : ws[i]? = some a) (hj : ws[j]? = some b) (h : i < j) : a < b := by
  obtain ⟨h1, e1⟩ := List.getElem?_eq_some_iff.mp hi
  obtain ⟨h2, e2⟩ := List.getElem?_eq_some_iff.mp hj
  rw [← e1, ← e2]
  exact List.pairwise_iff_getElem.mp up i j h1 h2 h
/-! ### first_bad_place, of data -/
def optV : Option Nat → V
  | none => .non
  | some i => .int (i : Int)
theorem drop_get {α : Type} {l : List α} {i : Nat} {x : α} (h : l[i]? = some x) : l.drop i = x :: l.drop (i + 1) := by
  obtain ⟨hi, e⟩ := List.getElem?_eq_some_iff.mp h
  rw [← e]
  exact List.drop_eq_getElem_cons hi
theorem badPlace_cons {n : Nat} {b : Int} {i : Nat} {d : PyData} {ds : List PyData} : badPlace n b i (d :: ds) = if numIn (b + 1) ((n : Int) - 1) d = true then badPlace n (numOf d) (i + 1) ds else some i := rfl
def sp_first_bad_place (K : PySem.W.Frag) : Sp := fun vs H Q _ => ∃ (n : Nat) (a : Addr) (xs : List V) (ds : List PyData), vs = [vN n, .ref a] ∧ SqT K H a xs ∧ DpAll K H xs ds ∧ ∀ H', Same H H' → Q (optV (badPlace n (-1) 0 ds)) H'
theorem cal_first_bad_place (T : Txt mg) (D : Def K mg "first_bad_place" s_first_bad_place) (c_number_within : Cal P w K mg base 2 "number_within" (sp_number_within K)) : Cal P w K mg base 3 "first_bad_place" (sp_first_bad_place K) := by
  refine cal_of D sc_first_bad_place (fun _ _ _ _ _ _ us hl => match us, hl with | [_, _], _ => rfl) (fun vs H Q E h => ?_) (fun f cdv A outer s H vs Q E hr h => ?_)
  · obtain ⟨n, a, xs, ds, rfl, _⟩ := h
    rfl
  · obtain ⟨n, a, xs, ds, rfl, hW, hD, q⟩ := h
    refine ⟨_, (pss_cons (ps_set (i := 2) sc_first_bad_place.nd rfl (Or.inl rfl) (pe_un un_neg pe_int))
      (pss_cons (ps_for PassesOwn.never rfl (show PI _ _ _ (iEnumT K _) from pi_enumT (by rfl) T.enumerate (pa_cons (pv 1) pa_nil)) (show PG _ _ (gTup K 2 _) from pg_tup (by rfl) (pgs_cons (pg_name (i := 3) sc_first_bad_place.nd rfl (Or.inl rfl)) (pgs_cons (pg_name (i := 4) sc_first_bad_place.nd rfl (Or.inl rfl)) pgs_nil))) (pss_cons (ps_if (pt_not (pt_val (pe_c c_number_within hr (by decide) (by rfl) (pa_cons (pv 4) (pa_cons (pe_op op_add (pv 2) pe_int) (pa_cons (pe_op op_sub (pv 0) pe_int) pa_nil)))))) (pss_one (ps_ret (pv 3))) pss_nil)
        (pss_one (ps_set (i := 2) sc_first_bad_place.nd rfl (Or.inl rfl) (pv 4)))))
      (pss_one (ps_ret pe_non)))), ?_⟩
    refine ⟨_, rfl, _, rfl, a, _, rfl, hW, for_it walk_enumT (fun i σ H' => ∃ (b : Int) (v3 v4 : Option V), σ = [some (vN n), some (.ref a), some (.int b), v3, v4] ∧ Same H H' ∧ badPlace n (-1) 0 ds = badPlace n b i (ds.drop i)) ⟨-1, _, _, rfl, fun _ _ h => h, rfl⟩ (fun i σ H' _ ⟨_, _, _, _, s1, _⟩ => Same.sqT s1 hW) ?_ ?_⟩
    · rintro i x σ H1 H2 hi ⟨b, v3, v4, rfl, s1, eb⟩ ⟨t, x0, y, rfl, nt, rfl, e1, e2⟩
      obtain ⟨d, hd, dd⟩ := dpAll_get hD e2
      have s2 := s1.trans (same_upd (o := .tup [.int (i : Nat), y]) nt)
      rw [drop_get hd, badPlace_cons] at eb
      cases e1
      refine ⟨t, _, rfl, .inl (.inl upd_same), rfl, _, _, rfl, _, _, rfl, rfl, ?_⟩
      refine ⟨_, rfl, _, rfl, _, _, rfl, rfl, _, rfl, _, _, rfl, rfl, _, d, _, _, rfl, Dp.same s2 dd, numIn (b + 1) ((n : Int) - 1) d, rfl, ?_⟩
      cases c : numIn (b + 1) ((n : Int) - 1) d with
      | false =>
        rw [c, if_neg Bool.false_ne_true] at eb
        refine iteT ?_
        have := q _ s2
        rw [eb] at this
        exact ⟨_, rfl, this⟩
      | true =>
        rw [c, if_pos rfl] at eb
        obtain ⟨z, rfl, _, _⟩ := numIn_is c
        cases dp_int dd
        refine iteF ?_
        exact ⟨_, rfl, z, _, _, rfl, s2, eb⟩
    · rintro σ H1 ⟨b, v3, v4, rfl, s1, eb⟩
      rw [dpAll_length hD, List.drop_length] at eb
      have := q H1 s1
      rw [eb] at this
      exact this
/-! ### road_fits, of data -/
def sp_road_fits (K : PySem.W.Frag) : Sp := fun vs H Q _ => ∃ (n : Nat) (v : V) (d : PyData), vs = [vN n, v] ∧ Dp K H v d ∧ Q (.bl (pairOf n d).isSome) H
theorem pairOf_two {n : Nat} {a b : PyData} : (pairOf n (.tuple [a, b])).isSome = (numIn 0 ((n : Int) - 1) a && numIn 0 ((n : Int) - 1) b) := by
  unfold pairOf
  simp only []
  split
  · rename_i h
    rw [h]
    rfl
  · rename_i h
    rw [Bool.not_eq_true] at h
    rw [h]
    rfl
theorem pairOf_len {n : Nat} {ds : List PyData} (h : ds.length ≠ 2) : pairOf n (.tuple ds) = none := by
  unfold pairOf
  split
  · rename_i a b e
    cases e
    exact absurd rfl h
  · rfl
theorem pairOf_not {n : Nat} {d : PyData} (h : isTup d = false) : pairOf n d = none := by
  cases d <;> first | rfl | cases h
theorem cal_road_fits (T : Txt mg) (D : Def K mg "road_fits" s_road_fits) (c_number_within : Cal P w K mg base 2 "number_within" (sp_number_within K)) : Cal P w K mg base 3 "road_fits" (sp_road_fits K) := by
  refine cal_of D sc_road_fits (fun _ _ _ _ _ _ us hl => match us, hl with | [_, _], _ => rfl) (fun vs H Q E h => ?_) (fun f cdv A outer s H vs Q E hr h => ?_)
  · obtain ⟨n, v, d, rfl, _⟩ := h
    rfl
  · obtain ⟨n, v, d, rfl, hd, q⟩ := h
    refine ⟨_, (pss_cons (ps_if (PW.pt (pw_or (pt_not (pt_val (pe_callB (show CallR _ _ (rIsi K) from call_isi) (by rfl) T.isinstance (by decide +kernel) (pa_cons (pv 1) (pa_cons (pe_bltn (v := .ty "tuple") (u := .type "tuple") (by rfl) T.tuple (by decide +kernel) rfl) pa_nil))))) (pw_or1 (pt_cmpR op_ne (pe_callB (show CallR _ _ (rLenS K) from call_lenS) (by rfl) T.len (by decide +kernel) (pa_cons (pv 1) pa_nil)) pe_int (nomark _))))) (pss_one (ps_ret pe_bl)) pss_nil)
      (pss_one (ps_ret (pe_and (pe_c c_number_within hr (by decide) (by rfl) (pa_cons (pe_ix (show IxR _ (rIxT K) from ix_tup) (pv 1) pe_int (fun _ _ => rfl)) (pa_cons pe_int (pa_cons (pe_op op_sub (pv 0) pe_int) pa_nil)))) (pe_one (pe_c c_number_within hr (by decide) (by rfl) (pa_cons (pe_ix (show IxR _ (rIxT K) from ix_tup) (pv 1) pe_int (fun _ _ => rfl)) (pa_cons pe_int (pa_cons (pe_op op_sub (pv 0) pe_int) pa_nil))))))))), ?_⟩
    refine ⟨_, rfl, _, _, _, _, isTup d, rfl, .ty "tuple", isi_dp hd, kit_tup d, isTup d, rfl, ?_⟩
    cases e : isTup d with
    | false =>
      rw [pairOf_not e] at q
      exact iteT (iteT q)
    | true =>
      obtain ⟨ds, rfl⟩ := isTup_is e
      obtain ⟨t, xs, rfl, ht, ha⟩ := dp_tup hd
      refine iteF ?_
      refine ⟨_, rfl, _, _, rfl, .inr ht, rfl, _, rfl, ?_⟩
      by_cases l : ds.length = 2
      · have e2 : (!decide (V.int ((xs.length : Nat) : Int) = V.int 2)) = false := by
          rw [dpAll_length ha, l]
          rfl
        obtain ⟨a, b, rfl⟩ : ∃ a b, ds = [a, b] := by
          match ds, l with
          | [a, b], _ => exact ⟨a, b, rfl⟩
        cases ha with
        | cons h1 h2 =>
          cases h2 with
          | cons h2 h3 =>
            cases h3
            rename_i x y
            refine iteF ?_
            rw [pairOf_two] at q
            refine ⟨_, rfl, _, _, _, _, rfl, rfl, ht, rfl, _, rfl, _, _, rfl, rfl, x, a, _, _, rfl, h1, numIn 0 ((n : Int) - 1) a, rfl, ?_⟩
            cases c : numIn 0 ((n : Int) - 1) a with
            | false =>
              rw [c] at q
              exact iteF q
            | true =>
              rw [c] at q
              refine iteT ?_
              exact ⟨_, rfl, _, _, _, _, rfl, rfl, ht, rfl, _, rfl, _, _, rfl, rfl, y, b, _, _, rfl, h2, q⟩
      · rw [pairOf_len l] at q
        have e2 : (!decide (V.int ((xs.length : Nat) : Int) = V.int 2)) = true := by
          rw [dpAll_length ha, decide_eq_false]
          · rfl
          · intro z
            have z' := V.int.inj z
            omega
        exact ite_any (fun _ => q) (fun z => absurd (show (!decide (V.int ((xs.length : Nat) : Int) = V.int 2)) = false from z) (by rw [e2]; exact fun h => nomatch h))
end
end Ft

set_option Elab.async false
set_option linter.all false
set_option maxRecDepth 100000
set_option maxHeartbeats 4000000
namespace Ft
open PySem PySem.Spec PyProof.Rows L2
section
variable {P : Program} {w : World} {K : PySem.W.Frag} {mg : Str → Option Value} {base : Heap} {ca : Str → Addr}
/-! ### check_roads, of data -/
theorem upP_get {ps : List (Nat × Nat)} (up : ps.Pairwise ltP) {i j : Nat} {a b : Nat × Nat} (hi : ps[i]? = some a) (hj : ps[j]? = some b) (h : i < j) : ltP a b := by
  obtain ⟨h1, e1⟩ := List.getElem?_eq_some_iff.mp hi
  obtain ⟨h2, e2⟩ := List.getElem?_eq_some_iff.mp hj
  rw [← e1, ← e2]
  exact List.pairwise_iff_getElem.mp up i j h1 h2 h
theorem lex_two {a b c d : Nat} :
    Ob.lexAt (fun j => decide (([(c : Int), (d : Int)] : List Int).getD j 0 = ([(a : Int), (b : Int)] : List Int).getD j 0)) (fun j => decide (([(c : Int), (d : Int)] : List Int).getD j 0 ≤ ([(a : Int), (b : Int)] : List Int).getD j 0)) (decide (([(c : Int), (d : Int)] : List Int).length ≤ ([(a : Int), (b : Int)] : List Int).length)) 0 (min ([(c : Int), (d : Int)] : List Int).length ([(a : Int), (b : Int)] : List Int).length) = !decide (ltP (a, b) (c, d)) := by
  simp only [List.length_cons, List.length_nil, Nat.min_self, Ob.lexAt, List.getD_cons_zero, List.getD_cons_succ]
  have e : decide (ltP (a, b) (c, d)) = decide (a < c ∨ (a = c ∧ b < d)) := by
    by_cases h : ltP (a, b) (c, d)
    · rw [decide_eq_true h]
      exact (decide_eq_true h).symm
    · rw [decide_eq_false h]
      exact (decide_eq_false h).symm
  rw [e]
  rcases Nat.lt_trichotomy a c with h | h | h
  · have n1 : ¬ ((c : Int) = a) := by omega
    have n2 : ¬ ((c : Int) ≤ a) := by omega
    have n3 : a < c ∨ (a = c ∧ b < d) := .inl h
    simp [n1, n2, n3]
  · have n1 : ((c : Int) = a) := by omega
    rcases Nat.lt_trichotomy b d with h2 | h2 | h2
    · have n2 : ¬ ((d : Int) = b) := by omega
      have n3 : ¬ ((d : Int) ≤ b) := by omega
      have n4 : a < c ∨ (a = c ∧ b < d) := .inr ⟨h, h2⟩
      simp [n1, n2, n3, n4]
    · have n2 : ((d : Int) = b) := by omega
      have n4 : ¬ (a < c ∨ (a = c ∧ b < d)) := by omega
      simp [n1, n2, n4]
    · have n2 : ¬ ((d : Int) = b) := by omega
      have n3 : ((d : Int) ≤ b) := by omega
      have n4 : ¬ (a < c ∨ (a = c ∧ b < d)) := by omega
      simp [n1, n2, n3, n4]
  · have n1 : ¬ ((c : Int) = a) := by omega
    have n2 : ((c : Int) ≤ a) := by omega
    have n3 : ¬ (a < c ∨ (a = c ∧ b < d)) := by omega
    simp [n1, n2, n3]
theorem badRoad_cons {n : Nat} {p : Option (Nat × Nat)} {i : Nat} {d : PyData} {ds : List PyData} : badRoad n p i (d :: ds) = match pairOf n d with
    | none => some i
    | some q => if above p q = true then badRoad n (some q) (i + 1) ds else some i := rfl
theorem pair_dp {K : PySem.W.Frag} {H : Hp} {v : V} {p : Nat × Nat} (h : Dp K H v (pairD p)) : ∃ t, v = .ref t ∧ SqT K H t [vN p.1, vN p.2] := by
  obtain ⟨a, xs, rfl, hs, ha⟩ := dp_tup h
  have e : xs = [p.1, p.2].map vN := nats_dp (ws := [p.1, p.2]) ha
  subst e
  exact ⟨a, rfl, hs⟩
def spX_check_roads (K : PySem.W.Frag) (ca : Str → Addr) : Sp := fun vs H Q E => ∃ (n : Nat) (v : V) (d : PyData), vs = [vN n, v] ∧ Dp K H v d ∧ (roadsErr n d = none → ∀ H', Same H H' → Q .non H') ∧ ∀ i, roadsErr n d = some i → Raised K ca H E ("BadMap", .int i)
theorem cal_check_roads (T : Txt mg) (D : Def K mg "check_roads" s_check_roads) (m_MOST_ROADS : MgI mg "MOST_ROADS" 240) (e_BadMap : Er P w K mg base ca "BadMap") (c_road_fits : Cal P w K mg base 3 "road_fits" (sp_road_fits K)) : CalX P w K mg base 4 "check_roads" (spX_check_roads K ca) := by
  refine calx_of D sc_check_roads (fun _ _ _ _ _ _ us hl => match us, hl with | [_, _], _ => rfl) (fun vs H Q E h => ?_) (fun f cdv A outer s H vs Q E hr h => ?_)
  · obtain ⟨n, v, d, rfl, _⟩ := h
    rfl
  · obtain ⟨n, v, d, rfl, hd, q, r⟩ := h
    refine ⟨_, (pss_cons (ps_if (PW.pt (pw_or (pt_not (pt_val (pe_callB (show CallR _ _ (rIsi K) from call_isi) (by rfl) T.isinstance (by decide +kernel) (pa_cons (pv 1) (pa_cons (pe_bltn (v := .ty "tuple") (u := .type "tuple") (by rfl) T.tuple (by decide +kernel) rfl) pa_nil))))) (pw_or1 (pt_cmpR op_gt (pe_callB (show CallR _ _ (rLenS K) from call_lenS) (by rfl) T.len (by decide +kernel) (pa_cons (pv 1) pa_nil)) (pe_globI (n := 240) rfl m_MOST_ROADS) (nomark _))))) (pss_one (ps_raiseE rfl e_BadMap hr (by decide) (takes_of rfl rfl rfl rfl) (by rfl) (pa_cons (pe_un un_neg pe_int) pa_nil))) pss_nil)
      (pss_one (ps_for (passes_of rfl) rfl (show PI _ _ _ (iEnumT K _) from pi_enumT (by rfl) T.enumerate (pa_cons (pv 1) pa_nil)) (show PG _ _ (gTup K 2 _) from pg_tup (by rfl) (pgs_cons (pg_name (i := 2) sc_check_roads.nd rfl (Or.inl rfl)) (pgs_cons (pg_name (i := 3) sc_check_roads.nd rfl (Or.inl rfl)) pgs_nil))) (pss_cons (ps_if (pt_not (pt_val (pe_c c_road_fits hr (by decide) (by rfl) (pa_cons (pv 0) (pa_cons (pv 3) pa_nil))))) (pss_one (ps_raiseE rfl e_BadMap hr (by decide) (takes_of rfl rfl rfl rfl) (by rfl) (pa_cons (pv 2) pa_nil))) pss_nil)
        (pss_one (ps_if (PW.pt (pw_and (pt_cmpR op_gt (pv 2) pe_int (nomark _)) (pw_and1 (pt_cmpR (show OpR _ _ (rLeT K) from op_leT hr.units0) (pv 3) (pe_ix (show IxR _ (rIxT K) from ix_tup) (pv 1) (pe_op op_sub (pv 2) pe_int) (fun _ _ => rfl)) (nomark _))))) (pss_one (ps_raiseE rfl e_BadMap hr (by decide) (takes_of rfl rfl rfl rfl) (by rfl) (pa_cons (pv 2) pa_nil))) pss_nil)))))), ?_⟩
    refine ⟨_, rfl, _, _, _, _, isTup d, rfl, .ty "tuple", isi_dp hd, kit_tup d, isTup d, rfl, ?_⟩
    cases e : isTup d with
    | false =>
      refine iteT (iteT ?_)
      refine ⟨_, rfl, _, rfl, fun dd hdd => ?_⟩
      exact r (-3) (by cases d <;> first | rfl | cases e) dd _ _ (same_upd hdd) upd_same (.int _)
    | true =>
      obtain ⟨ds, rfl⟩ := isTup_is e
      obtain ⟨a, xs, rfl, hR, hP⟩ := dp_tup hd
      have len := dpAll_length hP
      refine iteF ?_
      refine ⟨_, rfl, _, _, rfl, .inr hR, _, _, rfl, rfl, _, rfl, ?_⟩
      by_cases many : ds.length ≤ 240
      · rw [decide_eq_false (show ¬ ((240 : Int) < (xs.length : Nat)) by rw [len]; omega)]
        have er : roadsErr n (.tuple ds) = optI (badRoad n none 0 ds) := if_pos many
        rw [er] at q
        have r : ∀ i, optI (badRoad n none 0 ds) = some i → _ := fun i h => r i (er.trans h)
        refine iteF ?_
        refine ⟨_, rfl, a, _, rfl, hR, for_it walk_enumT (fun i σ H' => ∃ (v3 v4 : Option V) (p : Option (Nat × Nat)), σ = [some (vN n), some (.ref a), v3, v4] ∧ Same H H' ∧ badRoad n none 0 ds = badRoad n p i (ds.drop i) ∧ (i = 0 → p = none) ∧ ∀ i', i = i' + 1 → ∃ q, p = some q ∧ ds[i']? = some (pairD q)) ⟨_, _, none, rfl, (fun _ _ h => h), rfl, (fun _ => rfl), fun i' h => nomatch h⟩ (fun i σ H' _ ⟨_, _, _, _, s1, _⟩ => Same.sqT s1 hR) ?_ ?_⟩
        · rintro i x σ H1 H2 hi ⟨v3, v4, p, rfl, s1, eb, p0, pp⟩ ⟨t, x0, y, rfl, nt, rfl, e1, e2⟩
          obtain ⟨dy, hdy, dd⟩ := dpAll_get hP e2
          have s2 := s1.trans (same_upd (o := .tup [.int (i : Nat), y]) nt)
          rw [drop_get hdy, badRoad_cons] at eb
          cases e1
          refine ⟨t, _, rfl, .inl (.inl upd_same), rfl, _, _, rfl, _, _, rfl, rfl, ?_⟩
          refine ⟨_, rfl, _, rfl, n, y, dy, rfl, Dp.same s2 dd, (pairOf n dy).isSome, rfl, ?_⟩
          cases ep : pairOf n dy with
          | none =>
            rw [ep] at eb
            refine iteT ?_
            refine ⟨_, rfl, _, rfl, fun dx hdx => ?_⟩
            exact r i (by rw [eb]; rfl) dx _ _ (s2.trans (same_upd hdx)) upd_same (.int _)
          | some qr =>
            rw [ep] at eb
            simp only [] at eb
            obtain ⟨rfl, b1, b2⟩ := pairOf_is ep
            obtain ⟨z, rfl, pz⟩ := pair_dp dd
            refine iteF ?_
            refine ⟨_, rfl, _, _, rfl, rfl, _, rfl, ?_⟩
            cases i with
            | zero =>
              rw [decide_eq_false (show ¬ ((0 : Int) < ((0 : Nat) : Int)) by omega)]
              rw [p0 rfl] at eb
              rw [if_pos (show above none qr = true from rfl)] at eb
              refine iteF (iteF ⟨_, _, some qr, rfl, s2, eb, (fun h => nomatch h), fun i' h => ⟨qr, rfl, ?_⟩⟩)
              cases h
              exact hdy
            | succ i' =>
              rw [decide_eq_true (show (0 : Int) < ((i' + 1 : Nat) : Int) by omega)]
              refine iteT ?_
              obtain ⟨q0, rfl, hq0⟩ := pp i' rfl
              obtain ⟨y0, hy0, dy0⟩ := dpAll_getD hP hq0
              obtain ⟨z0, rfl, pz0⟩ := pair_dp dy0
              have ei : atI xs (((i' + 1 : Nat) : Int) - 1) = some (.ref z0) := by
                have e : ((i' + 1 : Nat) : Int) - 1 = (i' : Nat) := by omega
                rw [e]
                exact atI_nat hy0
              refine ⟨_, rfl, _, rfl, _, rfl, _, _, rfl, rfl, a, _, _, _, rfl, rfl, Same.sqT s2 hR, ei, z, z0, [(qr.1 : Int), (qr.2 : Int)], [(q0.1 : Int), (q0.2 : Int)], rfl, rfl, Same.sqT s2 pz, Same.sqT s2 pz0, _, rfl, ?_⟩
              rw [lex_two]
              by_cases lt : ltP q0 qr
              · have e3 : (!decide (ltP (q0.1, q0.2) (qr.1, qr.2))) = false := by rw [decide_eq_true (show ltP (q0.1, q0.2) (qr.1, qr.2) from lt)]; rfl
                rw [e3]
                rw [if_pos (show above (some q0) qr = true from decide_eq_true lt)] at eb
                refine iteF ⟨_, _, some qr, rfl, s2, eb, (fun h => nomatch h), fun j h => ⟨qr, rfl, ?_⟩⟩
                cases h
                exact hdy
              · have e3 : (!decide (ltP (q0.1, q0.2) (qr.1, qr.2))) = true := by rw [decide_eq_false (show ¬ ltP (q0.1, q0.2) (qr.1, qr.2) from lt)]; rfl
                rw [e3]
                rw [if_neg (show ¬ above (some q0) qr = true from fun h => lt (of_decide_eq_true h))] at eb
                refine iteT ?_
                refine ⟨_, rfl, _, rfl, fun dx hdx => ?_⟩
                exact r ((i' + 1 : Nat) : Int) (by rw [eb]; rfl) dx _ _ (s2.trans (same_upd hdx)) upd_same (.int _)
        · rintro σ H1 ⟨v3, v4, p, rfl, s1, eb, _⟩
          rw [len, List.drop_length] at eb
          exact q (by rw [eb]; rfl) H1 s1
      · rw [decide_eq_true (show ((240 : Int) < (xs.length : Nat)) by rw [len]; omega)]
        refine iteT ?_
        refine ⟨_, rfl, _, rfl, fun dx hdx => ?_⟩
        exact r (-3) (if_neg many) dx _ _ (same_upd hdx) upd_same (.int _)
end
end Ft

set_option Elab.async false
set_option linter.all false
set_option maxRecDepth 100000
set_option maxHeartbeats 4000000
namespace Ft
open PySem PySem.Spec PyProof.Rows L2
section
variable {P : Program} {w : World} {K : PySem.W.Frag} {mg : Str → Option Value} {base : Heap} {ca : Str → Addr}
/-! ### made_map, of data -/
theorem mapErr_not {d : PyData} (h : isTup d = false) : mapErr d = some (("BadMap" : Str), -1) := by
  cases d <;> first | rfl | cases h
theorem mapErr_len {ds : List PyData} (h : ds.length ≠ 3) : mapErr (.tuple ds) = some (("BadMap" : Str), -1) := by
  unfold mapErr
  split
  · rename_i a b c e
    cases e
    exact absurd rfl h
  · rfl
theorem mapErr_name {d : PyData} {x : Str} {i : Int} (h : mapErr d = some (x, i)) : x = "BadMap" ∨ x = "BadWish" := by
  unfold mapErr at h
  split at h
  · rename_i p r w
    unfold mapErr3 at h
    split at h
    · cases e : roadsErr (numOf p).toNat r with
      | some j => rw [e] at h; cases h; exact .inl rfl
      | none =>
        rw [e] at h
        cases e2 : wishErr (numOf p).toNat w with
        | some j => rw [e2] at h; cases h; exact .inr rfl
        | none => rw [e2] at h; cases h
    · cases h
      exact .inl rfl
  · cases h
    exact .inl rfl
/-- what is wanted behind a check: the answer, or the error that is due -/
def Due (K : PySem.W.Frag) (ca : Str → Addr) (H : Hp) (E : XK) (e : Option (Str × Int)) (ok : Prop) : Prop := (e = none → ok) ∧ ∀ x i, e = some (x, i) → Raised K ca H E (x, .int i)
def spX_made_map (K : PySem.W.Frag) (ca : Str → Addr) : Sp := fun vs H Q E => ∃ (v : V) (d : PyData), vs = [v] ∧ Dp K H v d ∧ Due K ca H E (mapErr d) (∀ c C c' H', v = .ref c → d = chartD C → C.Ok → Same H H' → IsChart K H' c' C → Q (.ref c') H')
def mapErrN (n : Nat) (rd wd : PyData) : Option (Str × Int) := match roadsErr n rd with
  | some i => some ("BadMap", i)
  | none => match wishErr n wd with
    | some i => some ("BadWish", i)
    | none => none
theorem mapErrN_map {n : Nat} {rd wd : PyData} {i : Int} (h : roadsErr n rd = some i) : mapErrN n rd wd = some (("BadMap" : Str), i) := by unfold mapErrN; rw [h]
theorem mapErrN_wish {n : Nat} {rd wd : PyData} {i : Int} (h : roadsErr n rd = none) (h2 : wishErr n wd = some i) : mapErrN n rd wd = some (("BadWish" : Str), i) := by unfold mapErrN; rw [h, h2]
theorem mapErrN_none {n : Nat} {rd wd : PyData} (h : roadsErr n rd = none) (h2 : wishErr n wd = none) : mapErrN n rd wd = none := by unfold mapErrN; rw [h, h2]
theorem dpAll_three {K : PySem.W.Frag} {H : Hp} {xs : List V} {a b c : PyData} (h : DpAll K H xs [a, b, c]) : ∃ x y z, xs = [x, y, z] ∧ Dp K H x a ∧ Dp K H y b ∧ Dp K H z c := by
  cases h with
  | cons h1 h =>
    cases h with
    | cons h2 h =>
      cases h with
      | cons h3 h =>
        cases h
        exact ⟨_, _, _, rfl, h1, h2, h3⟩
theorem dpAll_two {K : PySem.W.Frag} {H : Hp} {xs : List V} {a b : PyData} (h : DpAll K H xs [a, b]) : ∃ x y, xs = [x, y] ∧ Dp K H x a ∧ Dp K H y b := by
  cases h with
  | cons h1 h =>
    cases h with
    | cons h2 h =>
      cases h
      exact ⟨_, _, rfl, h1, h2⟩
theorem nD_toNat (n : Nat) : (numOf (nD n)).toNat = n := by simp [nD, numOf]
theorem int_nD {i : Int} (h : 0 ≤ i) : PyData.int i = nD (numOf (.int i)).toNat := by
  show PyData.int i = .int ((numOf (.int i)).toNat : Int)
  have : ((numOf (PyData.int i)).toNat : Int) = i := by
    simp only [numOf]
    omega
  rw [this]
theorem cal_made_map (T : Txt mg) (D : Def K mg "made_map" s_made_map) (m_MOST_PLACES : MgI mg "MOST_PLACES" 60) (e_BadMap : Er P w K mg base ca "BadMap") (e_BadWish : Er P w K mg base ca "BadWish") (c_number_within : Cal P w K mg base 2 "number_within" (sp_number_within K)) (c_check_roads : CalX P w K mg base 4 "check_roads" (spX_check_roads K ca))
    (c_first_bad_place : Cal P w K mg base 3 "first_bad_place" (sp_first_bad_place K)) : CalX P w K mg base 5 "made_map" (spX_made_map K ca) := by
  refine calx_of D sc_made_map (fun _ _ _ _ _ _ us hl => match us, hl with | [_], _ => rfl) (fun vs H Q E h => ?_) (fun f cdv A outer s H vs Q E hr h => ?_)
  · obtain ⟨v, d, rfl, _⟩ := h
    rfl
  · obtain ⟨v, d, rfl, hd, q, r⟩ := h
    have r : ∀ x i, mapErr d = some (x, i) → Raised K ca H E (x, .int i) := r
    refine ⟨_, (pss_cons (ps_if (PW.pt (pw_or (pt_not (pt_val (pe_callB (show CallR _ _ (rIsi K) from call_isi) (by rfl) T.isinstance (by decide +kernel) (pa_cons (pv 0) (pa_cons (pe_bltn (v := .ty "tuple") (u := .type "tuple") (by rfl) T.tuple (by decide +kernel) rfl) pa_nil))))) (pw_or1 (pt_cmpR op_ne (pe_callB (show CallR _ _ (rLenS K) from call_lenS) (by rfl) T.len (by decide +kernel) (pa_cons (pv 0) pa_nil)) pe_int (nomark _))))) (pss_one (ps_raiseE rfl e_BadMap hr (by decide) (takes_of rfl rfl rfl rfl) (by rfl) (pa_cons (pe_un un_neg pe_int) pa_nil))) pss_nil)
      (pss_cons (ps_asg (pv 0) (show PG _ _ (gTup K 3 _) from pg_tup (by rfl) (pgs_cons (pg_name (i := 1) sc_made_map.nd rfl (Or.inl rfl)) (pgs_cons (pg_name (i := 2) sc_made_map.nd rfl (Or.inl rfl)) (pgs_cons (pg_name (i := 3) sc_made_map.nd rfl (Or.inl rfl)) pgs_nil)))))
      (pss_cons (ps_if (pt_not (pt_val (pe_c c_number_within hr (by decide) (by rfl) (pa_cons (pv 1) (pa_cons pe_int (pa_cons (pe_globI (n := 60) rfl m_MOST_PLACES) pa_nil)))))) (pss_one (ps_raiseE rfl e_BadMap hr (by decide) (takes_of rfl rfl rfl rfl) (by rfl) (pa_cons (pe_un un_neg pe_int) pa_nil))) pss_nil)
      (pss_cons (ps_expr (pe_x (takes_of rfl rfl rfl rfl) c_check_roads hr (by decide) (by rfl) (pa_cons (pv 1) (pa_cons (pv 2) pa_nil))))
      (pss_cons (ps_if (pt_not (pt_val (pe_callB (show CallR _ _ (rIsi K) from call_isi) (by rfl) T.isinstance (by decide +kernel) (pa_cons (pv 3) (pa_cons (pe_bltn (v := .ty "tuple") (u := .type "tuple") (by rfl) T.tuple (by decide +kernel) rfl) pa_nil))))) (pss_one (ps_raiseE rfl e_BadWish hr (by decide) (takes_of rfl rfl rfl rfl) (by rfl) (pa_cons (pe_un un_neg pe_int) pa_nil))) pss_nil)
      (pss_cons (ps_set (i := 4) sc_made_map.nd rfl (Or.inl rfl) (pe_c c_first_bad_place hr (by decide) (by rfl) (pa_cons (pv 1) (pa_cons (pv 3) pa_nil))))
      (pss_cons (ps_if (pt_cmpR op_notN (pv 4) pe_non (nomark _)) (pss_one (ps_raiseE rfl e_BadWish hr (by decide) (takes_of rfl rfl rfl rfl) (by rfl) (pa_cons (pv 4) pa_nil))) pss_nil)
      (pss_one (ps_ret (pe_tup (pa_cons (pv 1) (pa_cons (pv 2) (pa_cons (pv 3) pa_nil))))))))))))), ?_⟩
    refine ⟨_, rfl, _, _, _, _, isTup d, rfl, .ty "tuple", isi_dp hd, kit_tup d, isTup d, rfl, ?_⟩
    cases e : isTup d with
    | false =>
      refine iteT (iteT ?_)
      exact ⟨_, rfl, _, rfl, fun dd hdd => r _ _ (mapErr_not e) dd _ _ (same_upd hdd) upd_same (.int _)⟩
    | true =>
      obtain ⟨ds, rfl⟩ := isTup_is e
      obtain ⟨c, xs, rfl, hC, hP⟩ := dp_tup hd
      have len := dpAll_length hP
      refine iteF ?_
      refine ⟨_, rfl, _, _, rfl, .inr hC, rfl, _, rfl, ?_⟩
      by_cases l : ds.length = 3
      · have e2 : (!decide (V.int ((xs.length : Nat) : Int) = V.int 3)) = false := by
          rw [len, l]
          rfl
        refine ite_any (fun z => absurd (show (!decide (V.int ((xs.length : Nat) : Int) = V.int 3)) = true from z) (by rw [e2]; exact fun h => nomatch h)) (fun _ => ?_)
        obtain ⟨p, rd, wd, rfl⟩ : ∃ a b c, ds = [a, b, c] := by
          match ds, l with
          | [a, b, c], _ => exact ⟨a, b, c, rfl⟩
        obtain ⟨vp, vr, vw, rfl, h1, h2, h3⟩ := dpAll_three hP
        refine ⟨_, rfl, c, _, rfl, hC, rfl, _, _, rfl, _, _, rfl, _, _, rfl, rfl, ?_⟩
        refine ⟨_, rfl, _, p, _, _, rfl, h1, numIn 0 60 p, rfl, ?_⟩
        have em : mapErr (.tuple [p, rd, wd]) = mapErr3 p rd wd := rfl
        rw [em] at q
        have r : ∀ x i, mapErr3 p rd wd = some (x, i) → _ := fun x i h => r x i (em.trans h)
        cases cn : numIn 0 60 p with
        | false =>
          refine iteT ?_
          exact ⟨_, rfl, _, rfl, fun dd hdd => r _ _ (by unfold mapErr3; rw [cn]; rfl) dd _ _ (same_upd hdd) upd_same (.int _)⟩
        | true =>
          obtain ⟨i, rfl, i1, i2⟩ := numIn_is cn
          cases dp_int h1
          obtain ⟨n, ep⟩ : ∃ n : Nat, PyData.int i = nD n := ⟨_, int_nD i1⟩
          have ei : i = (n : Int) := by
            have z : PyData.int i = .int (n : Int) := ep
            cases z
            rfl
          subst ei
          refine iteF ?_
          have e3 : mapErr3 (nD n) rd wd = mapErrN n rd wd := by
            unfold mapErr3 mapErrN
            rw [if_pos (by rw [numIn_nat]; omega), nD_toNat]
            cases roadsErr n rd with
            | some i => rfl
            | none => cases wishErr n wd <;> rfl
          have r : ∀ x i, mapErrN n rd wd = some (x, i) → Raised K ca H E (x, .int i) := fun x i h => r x i (e3.trans h)
          have q : mapErrN n rd wd = none → _ := fun h => q (e3.trans h)
          refine ⟨_, rfl, _, rfl, n, vr, rd, rfl, h2, fun er H1 s1 => ?_, fun j er => ?_⟩
          · have h31 := Dp.same s1 h3
            refine ⟨_, rfl, _, _, _, _, isTup wd, rfl, .ty "tuple", isi_dp h31, kit_tup wd, isTup wd, rfl, ?_⟩
            cases ew : isTup wd with
            | false =>
              have ew' : wishErr n wd = some (-1) := by cases wd <;> first | rfl | cases ew
              refine iteT ?_
              exact ⟨_, rfl, _, rfl, fun dd hdd => r _ _ (mapErrN_wish er ew') dd _ _ (s1.trans (same_upd hdd)) upd_same (.int _)⟩
            | true =>
              obtain ⟨wds, rfl⟩ := isTup_is ew
              obtain ⟨wa, ys, rfl, hW, hWs⟩ := dp_tup h31
              refine iteF ?_
              refine ⟨_, rfl, _, rfl, n, wa, ys, wds, rfl, hW, hWs, fun H2 s2 => ?_⟩
              have s12 := s1.trans s2
              have ew2 : wishErr n (.tuple wds) = optI (badPlace n (-1) 0 wds) := rfl
              cases eb : badPlace n (-1) 0 wds with
              | some k =>
                refine ⟨_, rfl, rfl, _, rfl, iteT ?_⟩
                exact ⟨_, rfl, _, rfl, fun dd hdd => r _ _ (mapErrN_wish er (by rw [ew2, eb]; rfl)) dd _ _ (s12.trans (same_upd hdd)) upd_same (.int _)⟩
              | none =>
                refine ⟨_, rfl, rfl, _, rfl, iteF ?_⟩
                have e1 : mapErrN n rd (.tuple wds) = none := mapErrN_none er (by rw [ew2, eb]; rfl)
                have e0 : mapErr3 (nD n) rd (.tuple wds) = none := e3.trans e1
                obtain ⟨C, ok, p1, p2, p3⟩ := mapErr3_none e0
                refine ⟨_, rfl, _, rfl, _, rfl, (by show 3 ≤ sizeLine; decide), fun p' hp => ?_⟩
                have s3 := s12.trans (same_upd (o := .tup [vN n, vr, .ref wa]) hp)
                have dd : Dp K (upd H2 p' (.tup [vN n, vr, .ref wa])) (.ref p') (chartD C) := by
                  have z : chartD C = .tuple [nD n, rd, .tuple wds] := by
                    unfold chartD
                    rw [← p1, ← p2, ← p3]
                  rw [z]
                  exact .tup (.inl (.inl upd_same)) (.cons (.int _) (.cons (Dp.same s3 h2) (.cons (Dp.same (s2.trans (same_upd hp)) h31) .nil)))
                obtain ⟨c2, ec, isC⟩ := chart_dp dd
                cases ec
                refine q e1 c C p' _ rfl ?_ ok s3 isC
                show PyData.tuple [nD n, rd, .tuple wds] = _
                unfold chartD
                rw [← p1, ← p2, ← p3]
          · intro dd H' v s' hdd hv
            exact r _ _ (mapErrN_map er) dd H' v s' hdd hv
      · refine ite_any (fun _ => ?_) (fun z => absurd (show (!decide (V.int ((xs.length : Nat) : Int) = V.int 3)) = false from z) (by
          rw [len, decide_eq_false]
          · exact fun h => nomatch h
          · intro z
            have z' := V.int.inj z
            omega))
        exact ⟨_, rfl, _, rfl, fun dd hdd => r _ _ (mapErr_len l) dd _ _ (same_upd hdd) upd_same (.int _)⟩
/-- of a map -/
def sp_made_map (K : PySem.W.Frag) : Sp := fun vs H Q _ => ∃ (c : Addr) (C : Chart), vs = [.ref c] ∧ IsChart K H c C ∧ C.Ok ∧ ∀ c' H', Same H H' → IsChart K H' c' C → Q (.ref c') H'
theorem chartD_inj {C C' : Chart} (h : chartD C = chartD C') : C = C' := by
  obtain ⟨n, rs, ws⟩ := C
  obtain ⟨n', rs', ws'⟩ := C'
  unfold chartD lotD at h
  simp only [PyData.tuple.injEq, List.cons.injEq, and_true] at h
  obtain ⟨h1, h2, h3⟩ := h
  have inN : ∀ {a b : Nat}, nD a = nD b → a = b := fun {a b} z => by
    have z' : PyData.int (a : Int) = .int (b : Int) := z
    cases z'
    rfl
  have inL : ∀ {f : Nat → PyData} {g : Nat → PyData}, True := fun {_ _} => trivial
  have e3 : ws = ws' := by
    refine List.map_inj_right (f := nD) (fun {a b} z => inN z) |>.mp h3
  have e2 : rs = rs' := by
    refine List.map_inj_right (f := pairD) (fun {a b} z => ?_) |>.mp h2
    unfold pairD at z
    simp only [PyData.tuple.injEq, List.cons.injEq, and_true] at z
    exact Prod.ext (inN z.1) (inN z.2)
  rw [inN h1, e2, e3]
theorem lotD_inj {ws ws' : List Nat} (h : lotD ws = lotD ws') : ws = ws' := by
  unfold lotD at h
  simp only [PyData.tuple.injEq] at h
  exact List.map_inj_right (f := nD) (fun {a b} z => by
    have z' : PyData.int (a : Int) = .int (b : Int) := z
    cases z'
    rfl) |>.mp h
theorem calv_made_map (c_made_map : CalX P w K mg base 5 "made_map" (spX_made_map K ca)) : Cal P w K mg base 5 "made_map" (sp_made_map K) :=
  c_made_map.valid fun vs H Q E ⟨c, C, e, isC, ok, q⟩ => ⟨_, _, e, dp_chart isC, fun _ c0 C' c' H' ec eC _ s' isC' => q c' H' s' (by rw [chartD_inj eC]; exact isC'), fun x i h => by rw [mapErr_chart ok] at h; cases h⟩
end
end Ft

set_option Elab.async false
set_option linter.all false
set_option maxRecDepth 100000
set_option maxHeartbeats 4000000
namespace Ft
open PySem PySem.Spec PyProof.Rows L2
section
variable {P : Program} {w : World} {K : PySem.W.Frag} {mg : Str → Option Value} {base : Heap} {ca : Str → Addr}
/-! ### place_fits, check_place, lot_fits, check_lot, of data -/
def rngD (n : Nat) (d : PyData) : Bool := numIn 0 ((n : Int) - 1) d
theorem rngD_nat {n i : Nat} (h : i < n) : rngD n (nD i) = true := numIn_nat.mpr ⟨by omega, by omega⟩
theorem rngD_is {n : Nat} {d : PyData} (h : rngD n d = true) : ∃ i, d = nD i ∧ i < n := by
  obtain ⟨i, rfl, h1, h2⟩ := numIn_is h
  refine ⟨i.toNat, ?_, by omega⟩
  show PyData.int i = .int (i.toNat : Int)
  rw [show ((i.toNat : Nat) : Int) = i by omega]
def sp_place_fits (K : PySem.W.Frag) : Sp := fun vs H Q _ => ∃ (c : Addr) (n : Nat) (v : V) (d : PyData) (r wd : Addr), vs = [.ref c, v] ∧ SqT K H c [vN n, .ref r, .ref wd] ∧ Dp K H v d ∧ Q (.bl (rngD n d)) H
theorem cal_place_fits (T : Txt mg) (D : Def K mg "place_fits" s_place_fits) (c_number_within : Cal P w K mg base 2 "number_within" (sp_number_within K)) : Cal P w K mg base 3 "place_fits" (sp_place_fits K) := by
  refine cal_of D sc_place_fits (fun _ _ _ _ _ _ us hl => match us, hl with | [_, _], _ => rfl) (fun vs H Q E h => ?_) (fun f cdv A outer s H vs Q E hr h => ?_)
  · obtain ⟨c, n, v, d, r, wd, rfl, _⟩ := h
    rfl
  · obtain ⟨c, n, v, d, r, wd, rfl, hc, hd, q⟩ := h
    refine ⟨_, (pss_one (ps_ret (pe_c c_number_within hr (by decide) (by rfl) (pa_cons (pv 1) (pa_cons pe_int (pa_cons (pe_op op_sub (pe_ix (show IxR _ (rIxT K) from ix_tup) (pv 0) pe_int (fun _ _ => rfl)) pe_int) pa_nil)))))), ?_⟩
    exact ⟨_, rfl, _, rfl, _, _, _, _, rfl, rfl, hc, rfl, _, _, rfl, rfl, v, d, _, _, rfl, hd, q⟩
def sp_lot_fits (K : PySem.W.Frag) : Sp := fun vs H Q _ => ∃ (c r wd : Addr) (n : Nat) (v : V) (d : PyData), vs = [.ref c, v] ∧ SqT K H c [vN n, .ref r, .ref wd] ∧ Dp K H v d ∧ ∀ H', Same H H' → Q (.bl (lotOk n d)) H'
theorem cal_lot_fits (T : Txt mg) (D : Def K mg "lot_fits" s_lot_fits) (c_first_bad_place : Cal P w K mg base 3 "first_bad_place" (sp_first_bad_place K)) : Cal P w K mg base 4 "lot_fits" (sp_lot_fits K) := by
  refine cal_of D sc_lot_fits (fun _ _ _ _ _ _ us hl => match us, hl with | [_, _], _ => rfl) (fun vs H Q E h => ?_) (fun f cdv A outer s H vs Q E hr h => ?_)
  · obtain ⟨c, r, wd, n, v, d, rfl, _⟩ := h
    rfl
  · obtain ⟨c, r, wd, n, v, d, rfl, hc, hd, q⟩ := h
    refine ⟨_, (pss_one (ps_ret (pe_and (pe_callB (show CallR _ _ (rIsi K) from call_isi) (by rfl) T.isinstance (by decide +kernel) (pa_cons (pv 1) (pa_cons (pe_bltn (v := .ty "tuple") (u := .type "tuple") (by rfl) T.tuple (by decide +kernel) rfl) pa_nil))) (pe_one (pe_cmpR op_isN (pe_c c_first_bad_place hr (by decide) (by rfl) (pa_cons (pe_ix (show IxR _ (rIxT K) from ix_tup) (pv 0) pe_int (fun _ _ => rfl)) (pa_cons (pv 1) pa_nil))) pe_non (nomark _)))))), ?_⟩
    refine ⟨_, rfl, _, _, _, _, isTup d, rfl, .ty "tuple", isi_dp hd, kit_tup d, isTup d, rfl, ?_⟩
    cases e : isTup d with
    | false =>
      have : lotOk n d = false := by cases d <;> first | rfl | cases e
      rw [this] at q
      exact iteF (q H fun _ _ h => h)
    | true =>
      obtain ⟨ds, rfl⟩ := isTup_is e
      obtain ⟨a, xs, rfl, hT, hD⟩ := dp_tup hd
      refine iteT ?_
      refine ⟨_, rfl, _, _, _, _, rfl, rfl, hc, rfl, _, rfl, n, a, xs, ds, rfl, hT, hD, fun H2 s2 => ?_⟩
      have z := q H2 s2
      have e2 : lotOk n (.tuple ds) = (badPlace n (-1) 0 ds).isNone := rfl
      rw [e2] at z
      cases eb : badPlace n (-1) 0 ds with
      | none =>
        rw [eb] at z
        exact ⟨rfl, z⟩
      | some k =>
        rw [eb] at z
        exact ⟨rfl, z⟩
def spX_check_lot (K : PySem.W.Frag) (ca : Str → Addr) : Sp := fun vs H Q E => ∃ (c r wd : Addr) (n : Nat) (v : V) (d : PyData), vs = [.ref c, v] ∧ SqT K H c [vN n, .ref r, .ref wd] ∧ Dp K H v d ∧ (lotOk n d = true → ∀ H', Same H H' → Q .non H') ∧ (lotOk n d = false → Raised K ca H E ("BadLot", .int (-1)))
theorem cal_check_lot (T : Txt mg) (D : Def K mg "check_lot" s_check_lot) (e_BadLot : Er P w K mg base ca "BadLot") (c_lot_fits : Cal P w K mg base 4 "lot_fits" (sp_lot_fits K)) : CalX P w K mg base 5 "check_lot" (spX_check_lot K ca) := by
  refine calx_of D sc_check_lot (fun _ _ _ _ _ _ us hl => match us, hl with | [_, _], _ => rfl) (fun vs H Q E h => ?_) (fun f cdv A outer s H vs Q E hr h => ?_)
  · obtain ⟨c, r, wd, n, v, d, rfl, _⟩ := h
    rfl
  · obtain ⟨c, r, wd, n, v, d, rfl, hc, hd, q1, q2⟩ := h
    refine ⟨_, (pss_one (ps_if (pt_not (pt_val (pe_c c_lot_fits hr (by decide) (by rfl) (pa_cons (pv 0) (pa_cons (pv 1) pa_nil))))) (pss_one (ps_raiseE rfl e_BadLot hr (by decide) (takes_of rfl rfl rfl rfl) (by rfl) (pa_cons (pe_un un_neg pe_int) pa_nil))) pss_nil)), ?_⟩
    refine ⟨_, rfl, _, rfl, c, r, wd, n, v, d, rfl, hc, hd, fun H2 s2 => ⟨lotOk n d, rfl, ?_⟩⟩
    cases e : lotOk n d with
    | true => exact iteF (q1 e H2 s2)
    | false => exact iteT ⟨_, rfl, _, rfl, fun dd hdd => q2 e dd _ _ (s2.trans (same_upd hdd)) upd_same (.int _)⟩
def sp_check_lot (K : PySem.W.Frag) : Sp := fun vs H Q _ => ∃ (c t r wd : Addr) (n : Nat) (T : List Nat), vs = [.ref c, .ref t] ∧ SqT K H c [vN n, .ref r, .ref wd] ∧ SqT K H t (T.map vN) ∧ (∀ x ∈ T, x < n) ∧ T.Pairwise (· < ·) ∧ ∀ H', Same H H' → Q .non H'
theorem calv_check_lot (c_check_lot : CalX P w K mg base 5 "check_lot" (spX_check_lot K ca)) : Cal P w K mg base 5 "check_lot" (sp_check_lot K) :=
  c_check_lot.valid fun vs H Q E ⟨c, t, r, wd, n, T, e, hc, hT, lt, up, q⟩ => ⟨c, r, wd, n, _, _, e, hc, dp_lot hT, fun _ => q, fun h => by rw [lotOk_lot up lt] at h; cases h⟩
end
end Ft

set_option Elab.async false
set_option linter.all false
set_option maxRecDepth 100000
set_option maxHeartbeats 4000000
namespace Ft
open PySem PySem.Spec PyProof.Rows L2
/-- the places to which roads of the row lead from a, in the row's order -/
def succs (rs : List (Nat × Nat)) (a : Nat) : List Nat := (rs.filter fun p => p.1 == a).map (·.2)
theorem succs_more (rs : List (Nat × Nat)) (p : Nat × Nat) (a : Nat) : succs (rs ++ [p]) a = if p.1 = a then succs rs a ++ [p.2] else succs rs a := by
  unfold succs
  rw [List.filter_append, List.map_append]
  by_cases h : p.1 = a
  · rw [if_pos h]
    have : (p.1 == a) = true := by simp [h]
    simp [List.filter_cons, this]
  · rw [if_neg h]
    have : (p.1 == a) = false := by simp [h]
    simp [List.filter_cons, this]
theorem succs_len (rs : List (Nat × Nat)) (a : Nat) : (succs rs a).length ≤ rs.length := by
  unfold succs
  rw [List.length_map]
  exact List.length_filter_le _ _
theorem succs_mem {rs : List (Nat × Nat)} {a b : Nat} : b ∈ succs rs a ↔ (a, b) ∈ rs := by
  unfold succs
  simp only [List.mem_map, List.mem_filter, beq_iff_eq]
  constructor
  · rintro ⟨⟨x, y⟩, ⟨h1, h2⟩, h3⟩
    dsimp at h2 h3
    subst h2 h3
    exact h1
  · intro h
    exact ⟨(a, b), ⟨h, rfl⟩, rfl⟩
theorem nodup_inj {α : Type} {l : List α} (nd : l.Nodup) {i j : Nat} {a : α} (hi : l[i]? = some a) (hj : l[j]? = some a) : i = j := by
  obtain ⟨h1, e1⟩ := List.getElem?_eq_some_iff.mp hi
  obtain ⟨h2, e2⟩ := List.getElem?_eq_some_iff.mp hj
  have ap := List.pairwise_iff_getElem.mp nd
  rcases Nat.lt_trichotomy i j with h | h | h
  · exact absurd (e1.trans e2.symm) (ap i j h1 h2 h)
  · exact h
  · exact absurd (e2.trans e1.symm) (ap j i h2 h1 h)
theorem take_more {α : Type} {l : List α} {i : Nat} {x : α} (h : l[i]? = some x) : l.take (i + 1) = l.take i ++ [x] := by
  rw [List.take_add_one, h]
  rfl
section
variable {P : Program} {w : World} {K : PySem.W.Frag} {mg : Str → Option Value} {base : Heap} {t1 t2 : Tok}
/-! ### roads_from -/
/-- a list of lists of places stands at q -/
structure LotsAt (H : Hp) (q : Addr) (ls : List Addr) (f : Nat → List Nat) : Prop where
  top : H q = some (.lst (ls.map V.ref))
  each : ∀ a l, ls[a]? = some l → H l = some (.lst ((f a).map vN))
def sp_roads_from (K : PySem.W.Frag) : Sp := fun vs H Q _ => ∃ (c : Addr) (C : Chart), vs = [.ref c] ∧ IsChart K H c C ∧ C.Ok ∧ ∀ q ls H', Same H H' → ls.length = C.n → LotsAt H' q ls (succs C.roads) → Q (.ref q) H'
theorem cal_roads_from (T : Txt mg) (D : Def K mg "roads_from" s_roads_from) : Cal P w K mg base 2 "roads_from" (sp_roads_from K) := by
  refine cal_of D sc_roads_from (fun _ _ _ _ _ _ us hl => match us, hl with | [_], _ => rfl) (fun vs H Q E h => ?_) (fun f cdv A outer s H vs Q E hr h => ?_)
  · obtain ⟨c, C, rfl, _⟩ := h
    rfl
  · obtain ⟨c, C, rfl, ⟨r, wd, ts, hC⟩, ok, q⟩ := h
    have n60 := ok.n60
    refine ⟨_, (pss_cons (ps_setLc (i := 1) (own := [("_", 4)]) rfl sc_roads_from.nd rfl rfl (sw_true rfl rfl rfl (by decide +kernel)) (pi_range1 (by rfl) T.range (pa_cons (pe_ix (show IxR _ (rIxT K) from ix_tup) (pv 0) pe_int (fun _ _ => rfl)) pa_nil)) (blkOk_by (N := ["chart", "targets", "a", "b", "_"]) (sc := L2.defScope s_roads_from) (by decide +kernel)) (fun _ _ _ _ _ => (pg_name (i := 4) sc_roads_from.nd rfl (Or.inl rfl))) (fun _ _ _ _ _ => pts_nil) (fun _ _ _ _ _ => (pe_lst pa_nil)))
      (pss_cons (ps_for PassesOwn.never rfl (show PI _ _ _ (iTup K _) from pi_tup (pe_ix (show IxR _ (rIxT K) from ix_tup) (pv 0) pe_int (fun _ _ => rfl))) (show PG _ _ (gTup K 2 _) from pg_tup (by rfl) (pgs_cons (pg_name (i := 2) sc_roads_from.nd rfl (Or.inl rfl)) (pgs_cons (pg_name (i := 3) sc_roads_from.nd rfl (Or.inl rfl)) pgs_nil))) (pss_one (ps_expr (pe_bm PySem.F.plainAttrs_list PySem.F.slot_list_append PySem.F.type_list_append mt_append (pe_ix (show IxR _ (rIxL K) from ix_list) (pv 1) (pv 2) (fun _ _ => rfl)) (pa_cons (pv 3) pa_nil)))))
      (pss_one (ps_ret (pv 1))))), ?_⟩
    refine ⟨_, rfl, _, _, _, _, rfl, rfl, hC.top, rfl, _, rfl, by omega, by omega, fun d hd => ?_⟩
    refine lc_range (lo := 0) (n := C.n) (fun i H' => ∃ ls : List Addr, ls.length = i ∧ ls.Nodup ∧ Same H H' ∧ (∀ l ∈ ls, H l = none ∧ l ≠ d ∧ H' l = some (.lst [])) ∧ H' d = some (.lst (ls.map V.ref))) ⟨[], rfl, List.nodup_nil, same_upd hd, (fun l z => nomatch z), upd_same⟩ ?_ ?_
    · rintro i H1 hi ⟨ls, el, nd, s1, all, hD⟩
      refine ⟨rfl, ?_⟩
      refine ⟨Nat.zero_le _, fun p hp => ?_⟩
      have npd : d ≠ p := ne_of_none hD hp
      have new : ∀ l ∈ ls, l ≠ p := fun l hl => ne_of_none (all l hl).2.2 hp
      refine ⟨_, Eq.trans (upd_ne npd) hD, by rw [List.length_map, el]; exact small1000 (by omega), ls ++ [p], by rw [List.length_append, el]; rfl, ?_, ?_, ?_, ?_⟩
      · rw [List.nodup_append]
        refine ⟨nd, by simp, fun x hx y hy => ?_⟩
        rw [List.mem_singleton.mp hy]
        exact new x hx
      · intro b o e
        have n1 : b ≠ d := ne_of_none e hd
        have n2 : b ≠ p := ne_of_none (s1 b o e) hp
        rw [upd_ne n1, upd_ne n2]
        exact s1 b o e
      · intro l hl
        rcases List.mem_append.mp hl with hl | hl
        · obtain ⟨a1, a2, a3⟩ := all l hl
          exact ⟨a1, a2, by rw [upd_ne a2, upd_ne (new l hl)]; exact a3⟩
        · rw [List.mem_singleton.mp hl]
          exact ⟨s1.free hp, npd.symm, by rw [upd_ne npd.symm, upd_same]⟩
      · rw [upd_same, List.map_append]
        rfl
    · rintro H1 ⟨ls, el, nd, s1, all, hD⟩
      have hC1 := hC.same s1
      refine ⟨_, rfl, _, _, _, _, rfl, rfl, hC1.top, rfl, r, rfl, ⟨_, hC1.row⟩, for_tup (xs := ts.map V.ref) (fun i σ H' => ∃ (v2 v3 v4 : Option V), σ = [some (.ref c), some (.ref d), v2, v3, v4] ∧ Same H H' ∧ H' d = some (.lst (ls.map V.ref)) ∧ ∀ a l, ls[a]? = some l → H' l = some (.lst ((succs (C.roads.take i) a).map vN)))
        ⟨_, _, _, rfl, s1, hD, fun a l e => (all l (List.mem_of_getElem? e)).2.2⟩ (fun i σ H' _ ⟨_, _, _, _, s2, _⟩ => Same.sqT s2 hC.row) ?_ ?_⟩
      · rintro i x σ H2 hx ⟨v2, v3, v4, rfl, s2, hD2, each⟩
        obtain ⟨t, ht, rfl⟩ := get_map hx
        obtain ⟨p, hp, pt⟩ := paired_getL hC.prs ht
        obtain ⟨b1, b2⟩ := ok.inR p (List.mem_of_getElem? hp)
        obtain ⟨l, hl⟩ : ∃ l, ls[p.1]? = some l := ⟨_, List.getElem?_eq_getElem (by rw [el]; exact b1)⟩
        have el2 := each p.1 l hl
        have hlm := all l (List.mem_of_getElem? hl)
        refine ⟨t, _, rfl, Same.sqT s2 pt, rfl, _, _, rfl, _, _, rfl, rfl, ?_⟩
        refine ⟨_, rfl, _, rfl, d, _, _, _, rfl, rfl, (.inl (.inl hD2)), atI_nat (v := V.ref l) (by rw [List.getElem?_map, hl]; rfl), .inl ⟨rfl, _, .inl (.inl el2)⟩, _, rfl, l, _, _, rfl, rfl, el2, ?_, ?_⟩
        · rw [List.length_map]
          have := succs_len (C.roads.take i) p.1
          have h2 : (C.roads.take i).length ≤ C.roads.length := by rw [List.length_take]; omega
          exact small1000 (by have := ok.many; omega)
        · refine ⟨_, _, _, rfl, fun b o e => ?_, by rw [upd_ne hlm.2.1.symm]; exact hD2, fun a m hm => ?_⟩
          · rw [upd_ne (ne_of_none e hlm.1)]
            exact s2 b o e
          · rw [take_more hp, succs_more]
            by_cases ha : p.1 = a
            · subst ha
              have : m = l := Option.some.inj (hm.symm.trans hl)
              subst this
              rw [upd_same, if_pos rfl, List.map_append]
              rfl
            · have nml : m ≠ l := by
                intro e
                subst e
                exact ha (nodup_inj nd hl hm)
              rw [upd_ne nml, if_neg ha]
              exact each a m hm
      · rintro σ H2 ⟨v2, v3, v4, rfl, s2, hD2, each⟩
        refine ⟨_, rfl, q d ls H2 s2 el ⟨hD2, fun a l e => ?_⟩⟩
        have := each a l e
        rwa [List.take_of_length_le (by rw [List.length_map]; exact Nat.le_of_eq (Paired.length hC.prs).symm)] at this
end
end Ft

set_option Elab.async false
set_option linter.all false
set_option maxRecDepth 100000
set_option maxHeartbeats 4000000
namespace Ft
open PySem PySem.Spec PyProof.Rows L2
section
variable {P : Program} {w : World} {K : PySem.W.Frag} {mg : Str → Option Value} {base : Heap} {t1 t2 : Tok}
theorem up_nodup {l : List Nat} (h : l.Pairwise (· < ·)) : l.Nodup := h.imp fun h e => by omega
theorem up_len {l : List Nat} {n : Nat} (h : l.Pairwise (· < ·)) (b : ∀ a ∈ l, a < n) : l.length ≤ n := by
  have := nat_nodup_len l (List.range n) (up_nodup h) fun x hx => List.mem_range.mpr (b x hx)
  rwa [List.length_range] at this
/-! ### unwished_of -/
def unw (C : Chart) : List Nat := (List.range C.n).filter fun a => !decide (a ∈ C.wished)
theorem range_more (n i : Nat) (h : i < n) : (List.range n).take (i + 1) = (List.range n).take i ++ [i] := by
  refine take_more ?_
  rw [List.getElem?_range h]
theorem range_take_mem {n i a : Nat} (h : i ≤ n) : a ∈ (List.range n).take i ↔ a < i := by
  have e : (List.range n).take i = List.range i := by
    rw [List.take_range, Nat.min_eq_left h]
  rw [e, List.mem_range]
def sp_unwished_of (K : PySem.W.Frag) : Sp := fun vs H Q _ => ∃ (c : Addr) (C : Chart), vs = [.ref c] ∧ IsChart K H c C ∧ C.Ok ∧ ∀ q H', Same H H' → H q = none → H' q = some (.lst ((unw C).map vN)) → Q (.ref q) H'
theorem cal_unwished_of (T : Txt mg) (D : Def K mg "unwished_of" s_unwished_of) : Cal P w K mg base 2 "unwished_of" (sp_unwished_of K) := by
  refine cal_of D sc_unwished_of (fun _ _ _ _ _ _ us hl => match us, hl with | [_], _ => rfl) (fun vs H Q E h => ?_) (fun f cdv A outer s H vs Q E hr h => ?_)
  · obtain ⟨c, C, rfl, _⟩ := h
    rfl
  · obtain ⟨c, C, rfl, ⟨r, wd, ts, hC⟩, ok, q⟩ := h
    have n60 := ok.n60
    refine ⟨_, (pss_cons (ps_set (i := 1) sc_unwished_of.nd rfl (Or.inr rfl) (pe_callTy (show CallR _ _ (rSetI K w) from cr_setI rfl) (by rfl) T.set (by decide +kernel) (pa_cons (pe_ix (show IxR _ (rIxT K) from ix_tup) (pv 0) pe_int (fun _ _ => rfl)) pa_nil)))
      (pss_one (ps_ret (pe_lc (own := [("place", 2)]) rfl sc_unwished_of.nd (pi_range1 (by rfl) T.range (pa_cons (pe_ix (show IxR _ (rIxT K) from ix_tup) (pv 0) pe_int (fun _ _ => rfl)) pa_nil)) (blkOk_by (N := ["chart", "wished", "place"]) (sc := L2.defScope s_unwished_of) (by decide +kernel)) (fun _ _ _ _ _ => (pg_name (i := 2) sc_unwished_of.nd rfl (Or.inl rfl))) (fun _ _ _ _ _ => pts_one (pt_cmpR (show OpR _ _ (rSNotIn w) from or_snotin) (pv 2) (pv 1) (by rfl))) (fun _ _ _ _ _ => (pv 2)))))), ?_⟩
    have lenW : (iN C.wished).length ≤ 1000 := by
      rw [iN_length]
      have := up_len ok.upW ok.inW
      omega
    refine ⟨_, rfl, _, _, _, _, rfl, rfl, hC.top, rfl, wd, iN C.wished, rfl, .inr (by rw [← vN_map]; exact hC.wis), lenW, fun p n0 hp hn0 => ?_⟩
    have s1 : Same H (upd H p (SetO w p (fun j => decide (j ∈ iN C.wished)) n0)) := same_upd hp
    have hC1 := hC.same s1
    refine ⟨_, rfl, _, _, _, _, rfl, rfl, hC1.top, rfl, _, rfl, by omega, by omega, fun d hd => ?_⟩
    have npd : p ≠ d := ne_of_none upd_same hd
    refine lc_range (lo := 0) (n := C.n) (fun i H' => Same H H' ∧ H' p = some (SetO w p (fun j => decide (j ∈ iN C.wished)) n0) ∧ H' d = some (.lst ((((List.range C.n).take i).filter fun a => !decide (a ∈ C.wished)).map vN)))
      ⟨s1.trans (same_upd hd), by rw [upd_ne npd]; exact upd_same, upd_same⟩ ?_ ?_
    · rintro i H1 hi ⟨s2, hp2, hd2⟩
      refine ⟨rfl, ?_⟩
      refine ⟨_, rfl, _, rfl, _, _, _, _, rfl, rfl, hp2, _, rfl, ?_⟩
      have e0 : (0 : Int) + (i : Nat) = (i : Nat) := by omega
      have e1 : decide ((0 : Int) + (i : Nat) ∈ iN C.wished) = decide (i ∈ C.wished) := by
        rw [e0]
        exact decide_eq_decide.mpr iN_mem
      rw [e1, range_more _ _ hi, List.filter_append]
      by_cases hw : i ∈ C.wished
      · rw [decide_eq_true hw]
        refine iteF ⟨s2, hp2, ?_⟩
        rw [hd2]
        simp [hw]
      · rw [decide_eq_false hw]
        refine iteT ?_
        refine ⟨_, rfl, _, hd2, ?_, ?_, ?_, ?_⟩
        · rw [List.length_map]
          have h1 := List.length_filter_le (fun a => !decide (a ∈ C.wished)) ((List.range C.n).take i)
          have h2 : ((List.range C.n).take i).length ≤ i := by rw [List.length_take]; omega
          exact small1000 (by omega)
        · intro b o e
          rw [upd_ne (ne_of_none e (s1.free hd))]
          exact s2 b o e
        · rw [upd_ne npd]
          exact hp2
        · rw [upd_same, List.map_append, e0]
          simp [hw]
          rfl
    · rintro H1 ⟨s2, hp2, hd2⟩
      rw [List.take_of_length_le (by rw [List.length_range]; exact Nat.le_refl _)] at hd2
      exact q d H1 s2 (s1.free hd) hd2
end
end Ft

set_option Elab.async false
set_option linter.all false
set_option maxRecDepth 100000
set_option maxHeartbeats 4000000
/-! Plain mathematics: ascending lists, reach -/
namespace Ft
theorem asc_ext : ∀ {l1 l2 : List Nat}, l1.Pairwise (· < ·) → l2.Pairwise (· < ·) → (∀ x, x ∈ l1 ↔ x ∈ l2) → l1 = l2
  | [], [], _, _, _ => rfl
  | [], b :: l2, _, _, h => absurd ((h b).mpr List.mem_cons_self) List.not_mem_nil
  | a :: l1, [], _, _, h => absurd ((h a).mp List.mem_cons_self) List.not_mem_nil
  | a :: l1, b :: l2, h1, h2, h => by
    obtain ⟨a1, p1⟩ := List.pairwise_cons.mp h1
    obtain ⟨a2, p2⟩ := List.pairwise_cons.mp h2
    have e : a = b := by
      rcases List.mem_cons.mp ((h a).mp List.mem_cons_self) with e | m
      · exact e
      · rcases List.mem_cons.mp ((h b).mpr List.mem_cons_self) with e | m'
        · exact e.symm
        · have := a2 a m
          have := a1 b m'
          omega
    subst e
    refine congrArg (a :: ·) (asc_ext p1 p2 fun x => ⟨fun m => ?_, fun m => ?_⟩)
    · rcases List.mem_cons.mp ((h x).mp (List.mem_cons_of_mem _ m)) with e | m'
      · have := a1 x m
        omega
      · exact m'
    · rcases List.mem_cons.mp ((h x).mpr (List.mem_cons_of_mem _ m)) with e | m'
      · have := a2 x m
        omega
      · exact m'
/-- the places below n with a property, ascending -/
noncomputable def those (n : Nat) (P : Nat → Prop) : List Nat := (List.range n).filter fun b => @decide (P b) (Classical.propDecidable _)
theorem range_up (n : Nat) : (List.range n).Pairwise (· < ·) := List.pairwise_lt_range
theorem those_up (n : Nat) (P : Nat → Prop) : (those n P).Pairwise (· < ·) := (range_up n).filter _
theorem those_mem {n : Nat} {P : Nat → Prop} {b : Nat} : b ∈ those n P ↔ b < n ∧ P b := by
  unfold those
  rw [List.mem_filter, List.mem_range]
  simp
theorem those_is {n : Nat} {P : Nat → Prop} {l : List Nat} (up : l.Pairwise (· < ·)) (h : ∀ x, x ∈ l ↔ x < n ∧ P x) : l = those n P :=
  asc_ext up (those_up n P) fun x => (h x).trans those_mem.symm
/-- a sorted copy of numbers -/
theorem sorted_iN {F : List Nat} (nd : F.Nodup) {ys : List Int} (pm : ys.Perm (F.map fun (n : Nat) => (n : Int))) (up : ys.Pairwise (· ≤ ·)) :
    ∃ l : List Nat, ys = l.map (fun (n : Nat) => (n : Int)) ∧ l.Pairwise (· < ·) ∧ ∀ x, x ∈ l ↔ x ∈ F := by
  have nn : ∀ y ∈ ys, 0 ≤ y := by
    intro y hy
    obtain ⟨n, _, e⟩ := List.mem_map.mp (pm.mem_iff.mp hy)
    omega
  have e : ys = (ys.map Int.toNat).map (fun (n : Nat) => (n : Int)) := by
    rw [List.map_map]
    conv => lhs; rw [← List.map_id ys]
    exact List.map_congr_left fun y hy => (Int.toNat_of_nonneg (nn y hy)).symm
  have ndy : ys.Nodup := by
    refine pm.nodup_iff.mpr ?_
    exact List.pairwise_map.mpr (nd.imp fun h e => h (by omega))
  refine ⟨ys.map Int.toNat, e, ?_, fun x => ?_⟩
  · refine List.pairwise_map.mpr ?_
    have both : ys.Pairwise fun a b => a ≤ b ∧ a ≠ b := List.Pairwise.and up ndy
    refine List.Pairwise.imp_of_mem (fun {a b} ha hb h => ?_) both
    have h1 := nn a ha
    have h2 := nn b hb
    omega
  · constructor
    · intro h
      obtain ⟨y, hy, e1⟩ := List.mem_map.mp h
      obtain ⟨n, hn, e2⟩ := List.mem_map.mp (pm.mem_iff.mp hy)
      have : n = x := by omega
      exact this ▸ hn
    · intro h
      have : (x : Int) ∈ ys := pm.mem_iff.mpr (List.mem_map.mpr ⟨x, h, rfl⟩)
      exact List.mem_map.mpr ⟨(x : Int), this, by omega⟩
/-- from a place along roads over unwished places -/
inductive Reach (rs : List (Nat × Nat)) (ws : List Nat) : Nat → Nat → Prop
  | one {a b : Nat} : (a, b) ∈ rs → Reach rs ws a b
  | more {a b c : Nat} : Reach rs ws a b → b ∉ ws → (b, c) ∈ rs → Reach rs ws a c
theorem Reach.cons {rs : List (Nat × Nat)} {ws : List Nat} {a b c : Nat} (h : (a, b) ∈ rs) (hb : b ∉ ws) (r : Reach rs ws b c) : Reach rs ws a c := by
  induction r with
  | one h2 => exact .more (.one h) hb h2
  | more _ h2 h3 ih => exact .more ih h2 h3
theorem Reach.trans {rs : List (Nat × Nat)} {ws : List Nat} {a b c : Nat} (r : Reach rs ws a b) (hb : b ∉ ws) (q : Reach rs ws b c) : Reach rs ws a c := by
  induction q with
  | one h2 => exact .more r hb h2
  | more _ h2 h3 ih => exact .more ih h2 h3
/-- what is closed and holds the first steps holds all -/
theorem Reach.within {rs : List (Nat × Nat)} {ws : List Nat} {S : Nat → Prop} {a b : Nat} (r : Reach rs ws a b) (h1 : ∀ x, (a, x) ∈ rs → S x) (h2 : ∀ x y, S x → x ∉ ws → (x, y) ∈ rs → S y) : S b := by
  induction r with
  | one h => exact h1 _ h
  | more _ hb h ih => exact h2 _ _ ih hb h
/-- the places that some place of S comes to -/
noncomputable def met (n : Nat) (rs : List (Nat × Nat)) (ws S : List Nat) : List Nat := those n fun b => ∃ a ∈ S, Reach rs ws a b
end Ft

set_option Elab.async false
set_option linter.all false
set_option maxRecDepth 100000
set_option maxHeartbeats 4000000
namespace Ft
open PySem PySem.Spec PyProof.Rows L2
/-- a dict of places, each with True -/
def keysOf (F : List Nat) : List (Key × V) := F.map fun (n : Nat) => ((Sum.inl (n : Int) : Key), V.bl true)
theorem keysOf_val : ∀ (F : List Nat) (x : Nat), valV (keysOf F) (Sum.inl (x : Int) : Key) = if x ∈ F then some (.bl true) else none
  | [], x => by simp [keysOf, valV]
  | a :: F, x => by
    have ih := keysOf_val F x
    unfold valV keysOf at ih ⊢
    rw [List.map_cons, List.find?_cons]
    by_cases h : a = x
    · subst h
      simp
    · have e : decide (((Sum.inl (a : Int) : Key)) = Sum.inl (x : Int)) = false := by
        refine decide_eq_false fun q => h ?_
        have := Sum.inl.inj q
        omega
      have hx : x ≠ a := fun q => h q.symm
      simp only [e, List.mem_cons, hx, false_or]
      exact ih
theorem keysOf_put (F : List Nat) (x : Nat) (h : x ∉ F) : putK (keysOf F) (Sum.inl (x : Int) : Key) (.bl true) = keysOf (F ++ [x]) := by
  rw [putK_new _ (by rw [keysOf_val, if_neg h])]
  unfold keysOf
  rw [List.map_append]
  rfl
theorem keysOf_len (F : List Nat) : (keysOf F).length = F.length := List.length_map ..
theorem keysOf_keys (F : List Nat) : (keysOf F).map (·.1) = (iN F).map Sum.inl := by
  unfold keysOf iN
  rw [List.map_map, List.map_map]
  rfl
theorem nodup_lt {F : List Nat} {n : Nat} (nd : F.Nodup) (b : ∀ x ∈ F, x < n) : F.length ≤ n := by
  have := nat_nodup_len F (List.range n) nd fun x hx => List.mem_range.mpr (b x hx)
  rwa [List.length_range] at this
/-- what holds between two turns of the search -/
structure Hunt (C : Chart) (S F W : List Nat) : Prop where
  nd : F.Nodup
  lt : ∀ b ∈ F, b < C.n
  fair : ∀ b ∈ F, ∃ a ∈ S, Reach C.roads C.wished a b
  wait : ∀ x ∈ W, x ∈ S ∨ (x ∈ F ∧ x ∉ C.wished)
structure Done (C : Chart) (S F W : List Nat) (off : Nat → Prop) : Prop where
  ok : ∀ x, (x ∈ S ∨ (x ∈ F ∧ x ∉ C.wished)) → x ∈ W ∨ off x ∨ ∀ b, (x, b) ∈ C.roads → b ∈ F
theorem hunt_end {C : Chart} {S F : List Nat} (h : Hunt C S F []) (d : Done C S F [] fun _ => False) : ∀ x, x ∈ F ↔ x < C.n ∧ ∃ a ∈ S, Reach C.roads C.wished a x := by
  intro x
  constructor
  · intro m
    exact ⟨h.lt x m, h.fair x m⟩
  · rintro ⟨_, a, ha, r⟩
    have all : ∀ y, (y ∈ S ∨ (y ∈ F ∧ y ∉ C.wished)) → ∀ b, (y, b) ∈ C.roads → b ∈ F := by
      intro y hy
      rcases d.ok y hy with z | z | z
      · exact absurd z List.not_mem_nil
      · exact z.elim
      · exact z
    exact r.within (S := (· ∈ F)) (fun y hy => all a (.inl ha) y hy) fun y z hy hw hz => all y (.inr ⟨hy, hw⟩) z hz
section
variable {P : Program} {w : World} {K : PySem.W.Frag} {mg : Str → Option Value} {base : Heap} {t1 t2 : Tok}
/-! ### reached -/
def hungry (n : Nat) (d wt : Addr) (H : Hp) : Nat := match H d, H wt with
  | some (.dK kvs), some (.lst ws) => 2 * (n - kvs.length) + ws.length
  | _, _ => 0
theorem hungry_is {n : Nat} {d wt : Addr} {H : Hp} {kvs : List (Key × V)} {ws : List V} (h1 : H d = some (.dK kvs)) (h2 : H wt = some (.lst ws)) : hungry n d wt H = 2 * (n - kvs.length) + ws.length := by
  unfold hungry
  rw [h1, h2]
def sp_reached (K : PySem.W.Frag) : Sp := fun vs H Q _ => ∃ (c st : Addr) (C : Chart) (S : List Nat), vs = [.ref c, .ref st] ∧ IsChart K H c C ∧ C.Ok ∧ SqT K H st (S.map vN) ∧ (∀ a ∈ S, a < C.n) ∧ S.length ≤ 60 ∧
  ∀ q H', Same H H' → H q = none → H' q = some (.lst ((met C.n C.roads C.wished S).map vN)) → Q (.ref q) H'
theorem cal_reached (T : Txt mg) (D : Def K mg "reached" s_reached) (c_roads_from : Cal P w K mg base 2 "roads_from" (sp_roads_from K)) : Cal P w K mg base 3 "reached" (sp_reached K) := by
  refine cal_of D sc_reached (fun _ _ _ _ _ _ us hl => match us, hl with | [_, _], _ => rfl) (fun vs H Q E h => ?_) (fun f cdv A outer s H vs Q E hr h => ?_)
  · obtain ⟨c, st, C, S, rfl, _⟩ := h
    rfl
  · obtain ⟨c, st, C, S, rfl, ⟨r, wd, ts, hC⟩, ok, hS, inS, fewS, q⟩ := h
    have hu := hu_of hr
    have n60 := ok.n60
    refine ⟨_, (pss_cons (ps_set (i := 2) sc_reached.nd rfl (Or.inl rfl) (pe_c c_roads_from hr (by decide) (by rfl) (pa_cons (pv 0) pa_nil)))
      (pss_cons (ps_set (i := 3) sc_reached.nd rfl (Or.inl rfl) (pe_callTy (show CallR _ _ (rSetI K w) from cr_setI rfl) (by rfl) T.set (by decide +kernel) (pa_cons (pe_ix (show IxR _ (rIxT K) from ix_tup) (pv 0) pe_int (fun _ _ => rfl)) pa_nil)))
      (pss_cons (ps_set (i := 4) sc_reached.nd rfl (Or.inl rfl) pe_dnewK)
      (pss_cons (ps_set (i := 5) sc_reached.nd rfl (Or.inl rfl) (pe_callTy (show CallR _ _ (rListOf K) from call_listOf) (by rfl) T.list (by decide +kernel) (pa_cons (pv 1) pa_nil)))
      (pss_cons (ps_while PassesOwn.never (pt_truth (pv 5) (by intro _; rfl)) (pss_cons (ps_set (i := 6) sc_reached.nd rfl (Or.inl rfl) (pe_bm0 PySem.F.plainAttrs_list PySem.F.slot_list_pop PySem.F.type_list_pop mt_pop (pv 5)))
        (pss_one (ps_for PassesOwn.never rfl (show PI _ _ _ (iList K _) from pi_list (pe_ix (show IxR _ (rIxL K) from ix_list) (pv 2) (pv 6) (fun _ _ => rfl))) (pg_name (i := 7) sc_reached.nd rfl (Or.inl rfl)) (pss_one (ps_if (pt_cmp (pc_dnotin hu (pv 7) (pv 4))) (pss_cons (ps_dput hu (pv 4) (pv 7) pe_bl rfl)
            (pss_one (ps_if (pt_cmpR (show OpR _ _ (rSNotIn w) from or_snotin) (pv 7) (pv 3) (by rfl)) (pss_one (ps_expr (pe_bm PySem.F.plainAttrs_list PySem.F.slot_list_append PySem.F.type_list_append mt_append (pv 5) (pa_cons (pv 7) pa_nil)))) pss_nil))) pss_nil))))))
      (pss_one (ps_ret (pe_callB (call_sortedDI rfl) (by rfl) T.sorted (by decide +kernel) (pa_cons (pv 4) pa_nil))))))))), ?_⟩
    refine ⟨_, rfl, c, C, rfl, ⟨r, wd, ts, hC⟩, ok, fun g ls H1 s1 el hL => ?_⟩
    have hC1 := hC.same s1
    have lenW : (iN C.wished).length ≤ 1000 := by
      rw [iN_length]
      have := up_len ok.upW ok.inW
      omega
    refine ⟨_, rfl, _, _, _, _, rfl, rfl, hC1.top, rfl, wd, iN C.wished, rfl, .inr (by rw [← vN_map]; exact hC1.wis), lenW, fun p n0 hp hn0 => ?_⟩
    have hp2 : (upd H1 p (SetO w p (fun j => decide (j ∈ iN C.wished)) n0)) p = some (SetO w p (fun j => decide (j ∈ iN C.wished)) n0) := upd_same
    have s2 : Same H (upd H1 p (SetO w p (fun j => decide (j ∈ iN C.wished)) n0)) := s1.trans (same_upd hp)
    have L2' : LotsAt (upd H1 p (SetO w p (fun j => decide (j ∈ iN C.wished)) n0)) g ls (succs C.roads) :=
      ⟨by rw [upd_ne (ne_of_none hL.top hp)]; exact hL.top, fun a l e => by rw [upd_ne (ne_of_none (hL.each a l e) hp)]; exact hL.each a l e⟩
    generalize (upd H1 p (SetO w p (fun j => decide (j ∈ iN C.wished)) n0)) = H2 at hp2 s2 L2'
    intro d hd
    have s3 : Same H2 (upd H2 d (.dK [])) := same_upd hd
    refine ⟨_, rfl, st, _, rfl, .inr (Same.sqT (s2.trans s3) hS), fun wt hwt => ?_⟩
    have ndw : d ≠ wt := ne_of_none upd_same hwt
    have nd2 : H2 wt = none := by rw [upd_ne ndw.symm] at hwt; exact hwt
    have apart : ∀ b o, H2 b = some o → b ∉ [d, wt] := by
      intro b o e m
      rcases List.mem_cons.mp m with z | z
      · rw [z, hd] at e
        cases e
      · rw [List.mem_singleton.mp z, nd2] at e
        cases e
    have k0 : Kp [d, wt] H2 (upd (upd H2 d (.dK [])) wt (.lst (S.map vN))) := by
      intro b o n e
      rw [upd_ne (fun z => n (by rw [z]; simp)), upd_ne (fun z => n (by rw [z]; simp))]
      exact e
    refine at_name ?_
    dsimp only
    refine at_seq ?_
    refine while_by (fun σ H' => ∃ (F W : List Nat) (v6 v7 : Option V), σ = [some (.ref c), some (.ref st), some (.ref g), some (.ref p), some (.ref d), some (.ref wt), v6, v7] ∧ Kp [d, wt] H2 H' ∧ H' d = some (.dK (keysOf F)) ∧ H' wt = some (.lst (W.map vN)) ∧ Hunt C S F W ∧ Done C S F W (fun _ => False) ∧ 2 * (C.n - F.length) + W.length ≤ 180) (fun _ H' => hungry C.n d wt H') ?_ ?_ ?_
    · refine ⟨[], S, _, _, rfl, k0, by rw [upd_ne ndw]; exact upd_same, upd_same, ⟨List.nodup_nil, (fun b z => nomatch z), (fun b z => nomatch z), fun x hx => .inl hx⟩, ⟨fun x hx => ?_⟩, by rw [List.length_nil]; omega⟩
      rcases hx with hx | hx
      · exact .inl hx
      · exact absurd hx.1 List.not_mem_nil
    · rintro σ H3 ⟨F, W, v6, v7, rfl, k3, hF, hW, hunt, dn, cap⟩
      refine ⟨_, rfl, _, .inl ⟨_, .inl (.inl hW), rfl⟩, ?_⟩
      by_cases he : W = []
      · subst he
        refine iteF ?_
        refine ⟨_, rfl, d, keysOf F, iN F, rfl, .inl hF, keysOf_keys F, ?_, fun ys q0 pm up hq0 => ?_⟩
        · rw [iN_length]
          have := nodup_lt hunt.nd hunt.lt
          omega
        · obtain ⟨l, el2, upl, ml⟩ := sorted_iN hunt.nd pm up
          have e : l = met C.n C.roads C.wished S := those_is upl fun x => (ml x).trans (hunt_end hunt dn x)
          refine q q0 _ ?_ ?_ ?_
          · intro b o e1
            have e2 := s2 b o e1
            have e3 := k3 b o (apart b o e2) e2
            rw [upd_ne (ne_of_none e3 hq0)]
            exact e3
          · have n1 : q0 ≠ d := fun z => by rw [z, hF] at hq0; cases hq0
            have n2 : q0 ≠ wt := fun z => by rw [z, hW] at hq0; cases hq0
            exact s2.free (kp_free k3 (by simp [n1, n2]) hq0)
          · rw [upd_same, el2, ← e, vN_map]
            rfl
      · have hb : (!(W.map vN).isEmpty) = true := by
          cases W with
          | nil => exact absurd rfl he
          | cons a W => rfl
        rw [hb]
        refine iteT ?_
        obtain ⟨W0, x, rfl⟩ : ∃ W0 x, W = W0 ++ [x] := ⟨W.dropLast, W.getLast he, (List.dropLast_concat_getLast he).symm⟩
        rw [List.length_append, List.length_singleton] at cap
        have hlast : ((W0 ++ [x]).map vN)[((W0 ++ [x]).map vN).length - 1]? = some (vN x) := by simp
        refine ⟨_, rfl, .inl ⟨rfl, _, .inl (.inl hW)⟩, wt, _, _, rfl, rfl, hW, hlast, ?_⟩
        have hdl : ((W0 ++ [x]).map vN).dropLast = W0.map vN := by simp
        rw [hdl]
        have hx : x ∈ S ∨ (x ∈ F ∧ x ∉ C.wished) := hunt.wait x (by simp)
        have hxn : x < C.n := by
          rcases hx with h | h
          · exact inS x h
          · exact hunt.lt x h.1
        obtain ⟨l, hl⟩ : ∃ l, ls[x]? = some l := ⟨_, List.getElem?_eq_getElem (by rw [el]; exact hxn)⟩
        have kW : Kp [d, wt] H2 (upd H3 wt (.lst (W0.map vN))) := by
          intro b o n e
          rw [upd_ne (fun z => n (by rw [z]; simp))]
          exact k3 b o n e
        have kept : ∀ {H' : Hp}, Kp [d, wt] H2 H' → LotsAt H' g ls (succs C.roads) := fun {H'} k => ⟨k _ _ (apart _ _ L2'.top) L2'.top, fun a m e => k _ _ (apart _ _ (L2'.each a m e)) (L2'.each a m e)⟩
        have mu0 : hungry C.n d wt H3 = 2 * (C.n - F.length) + (W0.length + 1) := by
          rw [hungry_is hF hW, keysOf_len]
          simp
        refine ⟨_, rfl, _, rfl, g, _, _, _, rfl, rfl, .inl (.inl (kept kW).top), atI_nat (v := V.ref l) (by rw [List.getElem?_map, hl]; rfl), l, rfl, ⟨_, .inl (.inl ((kept kW).each x l hl))⟩, ?_⟩
        refine for_list (K := K) (xs := (succs C.roads x).map vN) (fun i σ H' => ∃ (F1 W1 : List Nat) (v7 : Option V), σ = [some (.ref c), some (.ref st), some (.ref g), some (.ref p), some (.ref d), some (.ref wt), some (vN x), v7] ∧ Kp [d, wt] H2 H' ∧ H' d = some (.dK (keysOf F1)) ∧ H' wt = some (.lst (W1.map vN)) ∧ Hunt C S F1 W1 ∧
            Done C S F1 W1 (· = x) ∧ (∀ b ∈ (succs C.roads x).take i, b ∈ F1) ∧ 2 * (C.n - F1.length) + W1.length ≤ 2 * (C.n - F.length) + W0.length) ?_ (fun i σ H' _ ⟨F1, W1, _, _, k4, _⟩ => .inl (.inl ((kept k4).each x l hl))) ?_ ?_
        · refine ⟨F, W0, _, rfl, kW, ?_, upd_same, ⟨hunt.nd, hunt.lt, hunt.fair, fun y hy => hunt.wait y (by simp [hy])⟩, ⟨fun y hy => ?_⟩, fun b hb => ?_, Nat.le_refl _⟩
          · rw [upd_ne ndw]
            exact hF
          · rcases dn.ok y hy with z | z | z
            · rcases List.mem_append.mp z with z | z
              · exact .inl z
              · exact .inr (.inl (List.mem_singleton.mp z))
            · exact z.elim
            · exact .inr (.inr z)
          · rw [List.take_zero] at hb
            exact absurd hb List.not_mem_nil
        · rintro i y σ H4 hy ⟨F1, W1, v7', rfl, k4, hF1, hW1, hunt1, dn1, took, mu1⟩
          obtain ⟨b, hb, rfl⟩ := get_map hy
          have hbr : (x, b) ∈ C.roads := succs_mem.mp (List.mem_of_getElem? hb)
          have hbn : b < C.n := (ok.inR _ hbr).2
          have rb : ∃ a ∈ S, Reach C.roads C.wished a b := by
            rcases hx with h | ⟨h, hw⟩
            · exact ⟨x, h, .one hbr⟩
            · obtain ⟨a, ha, ra⟩ := hunt.fair x h
              exact ⟨a, ha, .more ra hw hbr⟩
          refine ⟨_, rfl, _, rfl, d, _, rfl, DGet.k (k := Sum.inl (b : Int)) hF1, _, rfl, ?_⟩
          rw [keysOf_val]
          by_cases hf : b ∈ F1
          · rw [if_pos hf]
            refine iteF ?_
            refine ⟨F1, W1, _, rfl, k4, hF1, hW1, hunt1, dn1, fun z hz => ?_, mu1⟩
            rw [take_more hb] at hz
            rcases List.mem_append.mp hz with hz | hz
            · exact took z hz
            · rw [List.mem_singleton.mp hz]
              exact hf
          · rw [if_neg hf]
            refine iteT ?_
            have len1 : F1.length < C.n := by
              have := nodup_lt (F := F1 ++ [b]) (n := C.n) (by
                rw [List.nodup_append]
                exact ⟨hunt1.nd, by simp, fun u hu v hv e => hf (by rw [← List.mem_singleton.mp hv, ← e]; exact hu)⟩) (fun u hu => by
                  rcases List.mem_append.mp hu with hu | hu
                  · exact hunt1.lt u hu
                  · rw [List.mem_singleton.mp hu]; exact hbn)
              rw [List.length_append, List.length_singleton] at this
              omega
            have nd1 : (F1 ++ [b]).Nodup := by
              rw [List.nodup_append]
              exact ⟨hunt1.nd, by simp, fun u hu v hv e => hf (by rw [← List.mem_singleton.mp hv, ← e]; exact hu)⟩
            refine ⟨_, rfl, _, rfl, d, _, rfl, DPut.k (k := Sum.inl (b : Int)) hF1 (by rw [keysOf_len]; exact small1000 (by omega)), ?_⟩
            rw [keysOf_put F1 b hf]
            have kD : Kp [d, wt] H2 (upd H4 d (.dK (keysOf (F1 ++ [b])))) := by
              intro u o n e
              rw [upd_ne (fun z => n (by rw [z]; simp))]
              exact k4 u o n e
            have hp5 : (upd H4 d (.dK (keysOf (F1 ++ [b])))) p = some (SetO w p (fun j => decide (j ∈ iN C.wished)) n0) := kD _ _ (apart _ _ hp2) hp2
            have huntF : ∀ z ∈ F1 ++ [b], z < C.n ∧ ∃ a ∈ S, Reach C.roads C.wished a z := by
              intro z hz
              rcases List.mem_append.mp hz with hz | hz
              · exact ⟨hunt1.lt z hz, hunt1.fair z hz⟩
              · rw [List.mem_singleton.mp hz]
                exact ⟨hbn, rb⟩
            have took' : ∀ z ∈ (succs C.roads x).take (i + 1), z ∈ F1 ++ [b] := by
              intro z hz
              rw [take_more hb] at hz
              rcases List.mem_append.mp hz with hz | hz
              · exact List.mem_append_left _ (took z hz)
              · exact List.mem_append_right _ hz
            refine ⟨_, rfl, _, rfl, _, p, _, _, rfl, rfl, hp5, _, rfl, ?_⟩
            have e1 : decide ((b : Int) ∈ iN C.wished) = decide (b ∈ C.wished) := decide_eq_decide.mpr iN_mem
            rw [e1]
            by_cases hw : b ∈ C.wished
            · rw [decide_eq_true hw]
              refine iteF ?_
              refine ⟨F1 ++ [b], W1, _, rfl, kD, upd_same, by rw [upd_ne ndw.symm]; exact hW1, ⟨nd1, fun z hz => (huntF z hz).1, fun z hz => (huntF z hz).2, fun z hz => ?_⟩, ⟨fun z hz => ?_⟩, took', ?_⟩
              · rcases hunt1.wait z hz with h | ⟨h, h'⟩
                · exact .inl h
                · exact .inr ⟨List.mem_append_left _ h, h'⟩
              · have hz' : z ∈ S ∨ (z ∈ F1 ∧ z ∉ C.wished) := by
                  rcases hz with h | ⟨h, h'⟩
                  · exact .inl h
                  · rcases List.mem_append.mp h with h | h
                    · exact .inr ⟨h, h'⟩
                    · rw [List.mem_singleton.mp h] at h'
                      exact absurd hw h'
                rcases dn1.ok z hz' with h | h | h
                · exact .inl h
                · exact .inr (.inl h)
                · exact .inr (.inr fun u hu => List.mem_append_left _ (h u hu))
              · rw [List.length_append, List.length_singleton]
                omega
            · rw [decide_eq_false hw]
              refine iteT ?_
              have hW5 : (upd H4 d (.dK (keysOf (F1 ++ [b])))) wt = some (.lst (W1.map vN)) := by rw [upd_ne ndw.symm]; exact hW1
              refine ⟨_, rfl, .inl ⟨rfl, _, .inl (.inl hW5)⟩, _, rfl, wt, _, _, rfl, rfl, hW5, ?_, ?_⟩
              · rw [List.length_map]
                exact small1000 (by omega)
              · refine ⟨F1 ++ [b], W1 ++ [b], _, rfl, ?_, ?_, ?_, ⟨nd1, fun z hz => (huntF z hz).1, fun z hz => (huntF z hz).2, fun z hz => ?_⟩, ⟨fun z hz => ?_⟩, took', ?_⟩
                · intro u o n e
                  rw [upd_ne (fun z => n (by rw [z]; simp))]
                  exact kD u o n e
                · rw [upd_ne ndw]
                  exact upd_same
                · rw [upd_same, List.map_append]
                  rfl
                · rcases List.mem_append.mp hz with hz | hz
                  · rcases hunt1.wait z hz with h | ⟨h, h'⟩
                    · exact .inl h
                    · exact .inr ⟨List.mem_append_left _ h, h'⟩
                  · rw [List.mem_singleton.mp hz]
                    exact .inr ⟨by simp, hw⟩
                · rcases hz with h | ⟨h, h'⟩
                  · rcases dn1.ok z (.inl h) with h | h | h
                    · exact .inl (List.mem_append_left _ h)
                    · exact .inr (.inl h)
                    · exact .inr (.inr fun u hu => List.mem_append_left _ (h u hu))
                  · rcases List.mem_append.mp h with h | h
                    · rcases dn1.ok z (.inr ⟨h, h'⟩) with h | h | h
                      · exact .inl (List.mem_append_left _ h)
                      · exact .inr (.inl h)
                      · exact .inr (.inr fun u hu => List.mem_append_left _ (h u hu))
                    · exact .inl (List.mem_append_right _ h)
                · rw [List.length_append, List.length_append, List.length_singleton]
                  omega
        · rintro σ H4 ⟨F1, W1, v7', rfl, k4, hF1, hW1, hunt1, dn1, took, mu1⟩
          refine ⟨⟨F1, W1, _, _, rfl, k4, hF1, hW1, hunt1, ⟨fun z hz => ?_⟩, by omega⟩, ?_⟩
          · rcases dn1.ok z hz with h | h | h
            · exact .inl h
            · subst h
              refine .inr (.inr fun b hb => took b ?_)
              rw [List.take_of_length_le (by rw [List.length_map]; exact Nat.le_refl _)]
              exact succs_mem.mpr hb
            · exact .inr (.inr h)
          · show hungry C.n d wt H4 < hungry C.n d wt H3
            rw [mu0, hungry_is hF1 hW1, keysOf_len, List.length_map]
            omega
    · rintro σ H' Q1 Q2 hQ ⟨v, e, k, tr, q1⟩
      exact ⟨v, e, k, tr, hQ _ _ q1⟩
end
end Ft

set_option Elab.async false
set_option linter.all false
set_option maxRecDepth 100000
set_option maxHeartbeats 4000000
namespace Ft
open PySem PySem.Spec PyProof.Rows L2
/-- the unwished places that some place of S comes to -/
noncomputable def metU (C : Chart) (S : List Nat) : List Nat := those C.n fun b => b ∉ C.wished ∧ ∃ a ∈ S, Reach C.roads C.wished a b
/-- the piece of a place -/
noncomputable def pieceOf (C : Chart) (a : Nat) : List Nat := if a ∈ C.wished then [a] else those C.n fun b => b ∉ C.wished ∧ (b = a ∨ (Reach C.roads C.wished a b ∧ Reach C.roads C.wished b a))
theorem unw_mem {C : Chart} {a : Nat} : a ∈ unw C ↔ a < C.n ∧ a ∉ C.wished := by
  unfold unw
  simp [List.mem_filter]
theorem unw_up (C : Chart) : (unw C).Pairwise (· < ·) := (range_up C.n).filter _
theorem unw_len (C : Chart) : (unw C).length ≤ C.n := by
  have := List.length_filter_le (fun a => !decide (a ∈ C.wished)) (List.range C.n)
  rwa [List.length_range] at this
theorem those_len (n : Nat) (P : Nat → Prop) : (those n P).length ≤ n := up_len (those_up n P) fun a h => (those_mem.mp h).1
/-- a dict of places, each with an object -/
def dictOf : List Nat → List Addr → List (Key × V)
  | a :: l, d :: ds => (Sum.inl (a : Int), .ref d) :: dictOf l ds
  | _, _ => []
theorem dictOf_more : ∀ (l : List Nat) (ds : List Addr) (a : Nat) (d : Addr), l.length = ds.length → dictOf (l ++ [a]) (ds ++ [d]) = dictOf l ds ++ [(Sum.inl (a : Int), .ref d)]
  | [], [], _, _, _ => rfl
  | x :: l, y :: ds, a, d, h => by
    have := dictOf_more l ds a d (Nat.succ.inj h)
    show _ :: dictOf (l ++ [a]) (ds ++ [d]) = _ :: (dictOf l ds ++ _)
    rw [this]
  | [], _ :: _, _, _, h => nomatch h
  | _ :: _, [], _, _, h => nomatch h
theorem dictOf_len : ∀ (l : List Nat) (ds : List Addr), l.length = ds.length → (dictOf l ds).length = l.length
  | [], [], _ => rfl
  | x :: l, y :: ds, h => congrArg (· + 1) (dictOf_len l ds (Nat.succ.inj h))
  | [], _ :: _, h => nomatch h
  | _ :: _, [], h => nomatch h
theorem dictOf_none : ∀ (l : List Nat) (ds : List Addr) (x : Nat), x ∉ l → valV (dictOf l ds) (Sum.inl (x : Int) : Key) = none
  | [], _, _, _ => by simp [dictOf, valV]
  | _ :: _, [], _, _ => by simp [dictOf, valV]
  | a :: l, d :: ds, x, h => by
    have ih := dictOf_none l ds x fun m => h (List.mem_cons_of_mem _ m)
    unfold valV at ih ⊢
    show ((((Sum.inl (a : Int) : Key), V.ref d) :: dictOf l ds).find? fun kv => decide (kv.1 = Sum.inl (x : Int))).map (·.2) = none
    rw [List.find?_cons]
    have e : decide (((Sum.inl (a : Int) : Key)) = Sum.inl (x : Int)) = false := by
      refine decide_eq_false fun q => h ?_
      have := Sum.inl.inj q
      have : a = x := by omega
      rw [this]
      exact List.mem_cons_self
    simp only [e]
    exact ih
theorem dictOf_val : ∀ (l : List Nat) (ds : List Addr) (i x : Nat) (d : Addr), l.Nodup → l[i]? = some x → ds[i]? = some d → valV (dictOf l ds) (Sum.inl (x : Int) : Key) = some (.ref d)
  | [], _, _, _, _, _, h, _ => by simp at h
  | _ :: _, [], _, _, _, _, _, h => by simp at h
  | a :: l, e :: ds, 0, x, d, _, h1, h2 => by
    simp at h1 h2
    subst h1 h2
    unfold valV
    show ((((Sum.inl (a : Int) : Key), V.ref e) :: dictOf l ds).find? fun kv => decide (kv.1 = Sum.inl (a : Int))).map (·.2) = some (.ref e)
    rw [List.find?_cons]
    simp
  | a :: l, e :: ds, i + 1, x, d, nd, h1, h2 => by
    obtain ⟨n1, n2⟩ := List.nodup_cons.mp nd
    have ih := dictOf_val l ds i x d n2 (by simpa using h1) (by simpa using h2)
    have hx : x ∈ l := List.mem_of_getElem? (by simpa using h1 : l[i]? = some x)
    unfold valV at ih ⊢
    show ((((Sum.inl (a : Int) : Key), V.ref e) :: dictOf l ds).find? fun kv => decide (kv.1 = Sum.inl (x : Int))).map (·.2) = some (.ref d)
    rw [List.find?_cons]
    have e2 : decide (((Sum.inl (a : Int) : Key)) = Sum.inl (x : Int)) = false := by
      refine decide_eq_false fun q => n1 ?_
      have := Sum.inl.inj q
      have : a = x := by omega
      rw [this]
      exact hx
    simp only [e2]
    exact ih
section
variable {P : Program} {w : World} {K : PySem.W.Frag} {mg : Str → Option Value} {base : Heap} {t1 t2 : Tok}
/-! ### reached_unwished -/
def sp_reached_unwished (K : PySem.W.Frag) : Sp := fun vs H Q _ => ∃ (c st : Addr) (C : Chart) (S : List Nat), vs = [.ref c, .ref st] ∧ IsChart K H c C ∧ C.Ok ∧ SqT K H st (S.map vN) ∧ (∀ a ∈ S, a < C.n) ∧ S.length ≤ 60 ∧
  ∀ q H', Same H H' → H q = none → H' q = some (.lst ((metU C S).map vN)) → Q (.ref q) H'
theorem cal_reached_unwished (T : Txt mg) (D : Def K mg "reached_unwished" s_reached_unwished) (c_reached : Cal P w K mg base 3 "reached" (sp_reached K)) : Cal P w K mg base 4 "reached_unwished" (sp_reached_unwished K) := by
  refine cal_of D sc_reached_unwished (fun _ _ _ _ _ _ us hl => match us, hl with | [_, _], _ => rfl) (fun vs H Q E h => ?_) (fun f cdv A outer s H vs Q E hr h => ?_)
  · obtain ⟨c, st, C, S, rfl, _⟩ := h
    rfl
  · obtain ⟨c, st, C, S, rfl, ⟨r, wd, ts, hC⟩, ok, hS, inS, fewS, q⟩ := h
    have n60 := ok.n60
    refine ⟨_, (pss_cons (ps_set (i := 2) sc_reached_unwished.nd rfl (Or.inr rfl) (pe_callTy (show CallR _ _ (rSetI K w) from cr_setI rfl) (by rfl) T.set (by decide +kernel) (pa_cons (pe_ix (show IxR _ (rIxT K) from ix_tup) (pv 0) pe_int (fun _ _ => rfl)) pa_nil)))
      (pss_one (ps_ret (pe_lc (own := [("place", 3)]) rfl sc_reached_unwished.nd (show PI _ _ _ (iList K _) from pi_list (pe_c c_reached hr (by decide) (by rfl) (pa_cons (pv 0) (pa_cons (pv 1) pa_nil)))) (blkOk_by (N := ["chart", "starts", "wished", "place"]) (sc := L2.defScope s_reached_unwished) (by decide +kernel)) (fun _ _ _ _ _ => (pg_name (i := 3) sc_reached_unwished.nd rfl (Or.inl rfl))) (fun _ _ _ _ _ => pts_one (pt_cmpR (show OpR _ _ (rSNotIn w) from or_snotin) (pv 3) (pv 2) (by rfl))) (fun _ _ _ _ _ => (pv 3)))))), ?_⟩
    have lenW : (iN C.wished).length ≤ 1000 := by
      rw [iN_length]
      have := up_len ok.upW ok.inW
      omega
    refine ⟨_, rfl, _, _, _, _, rfl, rfl, hC.top, rfl, wd, iN C.wished, rfl, .inr (by rw [← vN_map]; exact hC.wis), lenW, fun p n0 hp hn0 => ?_⟩
    have s1 : Same H (upd H p (SetO w p (fun j => decide (j ∈ iN C.wished)) n0)) := same_upd hp
    refine ⟨_, rfl, _, rfl, c, st, C, S, rfl, ⟨r, wd, ts, hC.same s1⟩, ok, Same.sqT s1 hS, inS, fewS, fun g H1 s2 hg hG => ?_⟩
    have hp1 : H1 p = some (SetO w p (fun j => decide (j ∈ iN C.wished)) n0) := s2 _ _ upd_same
    refine ⟨g, rfl, ⟨_, .inl (.inl hG)⟩, fun d hd => ?_⟩
    have npd : p ≠ d := ne_of_none hp1 hd
    have ngd : g ≠ d := ne_of_none hG hd
    refine lc_list (K := K) (xs := (met C.n C.roads C.wished S).map vN) (fun i H' => Same H1 (upd H' d (.lst [])) ∧ (∀ b o, H1 b = some o → H' b = some o) ∧ H' d = some (.lst ((((met C.n C.roads C.wished S).take i).filter fun a => !decide (a ∈ C.wished)).map vN)))
      ⟨fun b o e => ?_, same_upd hd, upd_same⟩ (fun i H' _ ⟨_, s3, _⟩ => .inl (.inl (s3 _ _ hG))) ?_ ?_
    · rw [upd_ne (ne_of_none e hd), upd_ne (ne_of_none e hd)]
      exact e
    · rintro i x H2 hx ⟨_, s3, hd2⟩
      obtain ⟨b, hb, rfl⟩ := get_map hx
      refine ⟨rfl, ?_⟩
      refine ⟨_, rfl, _, rfl, _, _, _, _, rfl, rfl, s3 _ _ hp1, _, rfl, ?_⟩
      have e1 : decide ((b : Int) ∈ iN C.wished) = decide (b ∈ C.wished) := decide_eq_decide.mpr iN_mem
      rw [e1, take_more hb, List.filter_append]
      by_cases hw : b ∈ C.wished
      · rw [decide_eq_true hw]
        refine iteF ⟨fun u o e => ?_, s3, ?_⟩
        · rw [upd_ne (ne_of_none e hd)]
          exact s3 u o e
        · rw [hd2]
          simp [hw]
      · rw [decide_eq_false hw]
        refine iteT ?_
        refine ⟨_, rfl, _, hd2, ?_, ?_, ?_, ?_⟩
        · rw [List.length_map]
          have h1 := List.length_filter_le (fun a => !decide (a ∈ C.wished)) ((met C.n C.roads C.wished S).take i)
          have h2 : ((met C.n C.roads C.wished S).take i).length ≤ (met C.n C.roads C.wished S).length := by rw [List.length_take]; omega
          have h3 : (met C.n C.roads C.wished S).length ≤ C.n := those_len _ _
          exact small1000 (by omega)
        · intro u o e
          rw [upd_ne (ne_of_none e hd), upd_ne (ne_of_none e hd)]
          exact s3 u o e
        · intro u o e
          rw [upd_ne (ne_of_none e hd)]
          exact s3 u o e
        · rw [upd_same, List.map_append]
          simp [hw]
    · rintro H2 ⟨_, s3, hd2⟩
      rw [List.take_of_length_le (by rw [List.length_map]; exact Nat.le_refl _)] at hd2
      have e : ((met C.n C.roads C.wished S).filter fun a => !decide (a ∈ C.wished)) = metU C S := by
        refine those_is ((those_up _ _).filter _) fun x => ?_
        rw [List.mem_filter]
        unfold met
        rw [those_mem]
        simp only [Bool.not_eq_true', decide_eq_false_iff_not]
        exact ⟨fun h => ⟨h.1.1, h.2, h.1.2⟩, fun h => ⟨⟨h.1, h.2.2⟩, h.2.1⟩⟩
      rw [e] at hd2
      exact q d H2 (fun b o eb => s3 b o (s2 b o (s1 b o eb))) ((s1.trans s2).free hd) hd2
end
end Ft

set_option Elab.async false
set_option linter.all false
set_option maxRecDepth 100000
set_option maxHeartbeats 8000000
namespace Ft
open PySem PySem.Spec PyProof.Rows L2
section
variable {P : Program} {w : World} {K : PySem.W.Frag} {mg : Str → Option Value} {base : Heap} {t1 t2 : Tok}
/-! ### piece_table -/
/-- the pieces at the addresses rows -/
def PiecesAt (K : PySem.W.Frag) (H : Hp) (C : Chart) (rows : List Addr) : Prop := rows.length = C.n ∧ ∀ x t, rows[x]? = some t → SqT K H t ((pieceOf C x).map vN)
theorem piece_filter {C : Chart} {a : Nat} (ha : a < C.n) (hw : a ∉ C.wished) : (unw C).filter (fun b => decide (a = b) || (decide (b ∈ metU C [a]) && decide (a ∈ metU C [b]))) = pieceOf C a := by
  unfold pieceOf
  rw [if_neg hw]
  refine those_is ((unw_up C).filter _) fun x => ?_
  rw [List.mem_filter, unw_mem]
  unfold metU
  simp only [Bool.or_eq_true, Bool.and_eq_true, decide_eq_true_eq, those_mem, List.mem_singleton, exists_eq_left]
  constructor
  · rintro ⟨⟨h1, h2⟩, h3⟩
    refine ⟨h1, h2, ?_⟩
    rcases h3 with e | ⟨⟨_, _, r1⟩, ⟨_, _, r2⟩⟩
    · exact .inl e.symm
    · exact .inr ⟨r1, r2⟩
  · rintro ⟨h1, h2, h3⟩
    refine ⟨⟨h1, h2⟩, ?_⟩
    rcases h3 with e | ⟨r1, r2⟩
    · exact .inl e.symm
    · exact .inr ⟨⟨h1, h2, r1⟩, ⟨ha, hw, r2⟩⟩
def sp_piece_table (K : PySem.W.Frag) : Sp := fun vs H Q _ => ∃ (c : Addr) (C : Chart), vs = [.ref c] ∧ IsChart K H c C ∧ C.Ok ∧ ∀ q rows H', Same H H' → H q = none → H' q = some (.lst (rows.map V.ref)) → PiecesAt K H' C rows → Q (.ref q) H'
theorem cal_piece_table (T : Txt mg) (D : Def K mg "piece_table" s_piece_table) (c_unwished_of : Cal P w K mg base 2 "unwished_of" (sp_unwished_of K)) (c_reached_unwished : Cal P w K mg base 4 "reached_unwished" (sp_reached_unwished K)) :
    Cal P w K mg base 5 "piece_table" (sp_piece_table K) := by
  refine cal_of D sc_piece_table (fun _ _ _ _ _ _ us hl => match us, hl with | [_], _ => rfl) (fun vs H Q E h => ?_) (fun f cdv A outer s H vs Q E hr h => ?_)
  · obtain ⟨c, C, rfl, _⟩ := h
    rfl
  · obtain ⟨c, C, rfl, ⟨r, wd, ts, hC⟩, ok, q⟩ := h
    have hu := hu_of hr
    have n60 := ok.n60
    have ulen := unw_len C
    refine ⟨_, (pss_cons (ps_set (i := 1) sc_piece_table.nd rfl (Or.inl rfl) (pe_c c_unwished_of hr (by decide) (by rfl) (pa_cons (pv 0) pa_nil)))
      (pss_cons (ps_set (i := 2) sc_piece_table.nd rfl (Or.inr rfl) (pe_dc (own := [("a", 4)]) rfl sc_piece_table.nd (show PI _ _ _ (iList K _) from pi_list (pv 1)) (blkOk_by (N := ["chart", "unwished", "comes_to", "table", "a", "b"]) (sc := L2.defScope s_piece_table) (by decide +kernel)) (fun _ _ _ _ _ => (pg_name (i := 4) sc_piece_table.nd rfl (Or.inl rfl))) (fun _ _ _ _ _ => pts_nil) (fun _ _ _ _ _ => (pv 4)) (fun _ _ _ _ _ => (pe_dc (own := [("b", 5)]) rfl sc_piece_table.nd (show PI _ _ _ (iList K _) from pi_list (pe_c c_reached_unwished hr (by decide) (by rfl) (pa_cons (pv 0) (pa_cons (pe_tup (pa_cons (pv 4) pa_nil)) pa_nil)))) (blkIn (N := ["chart", "unwished", "comes_to", "table", "a", "b"]) (sc := L2.defScope s_piece_table) rfl (by decide +kernel)) (fun _ _ _ _ _ => (pg_name (i := 5) sc_piece_table.nd rfl (Or.inl rfl))) (fun _ _ _ _ _ => pts_nil) (fun _ _ _ _ _ => (pv 5)) (fun _ _ _ _ _ => pe_bl)))))
      (pss_cons (ps_setLc (i := 3) (own := [("a", 4)]) rfl sc_piece_table.nd rfl rfl (sw_true rfl rfl rfl (by decide +kernel)) (pi_range1 (by rfl) T.range (pa_cons (pe_ix (show IxR _ (rIxT K) from ix_tup) (pv 0) pe_int (fun _ _ => rfl)) pa_nil)) (blkOk_by (N := ["chart", "unwished", "comes_to", "table", "a", "b"]) (sc := L2.defScope s_piece_table) (by decide +kernel)) (fun _ _ _ _ _ => (pg_name (i := 4) sc_piece_table.nd rfl (Or.inl rfl))) (fun _ _ _ _ _ => pts_nil) (fun _ _ _ _ _ => (pe_tup (pa_cons (pv 4) pa_nil))))
      (pss_cons (ps_for PassesOwn.never rfl (show PI _ _ _ (iList K _) from pi_list (pv 1)) (pg_name (i := 4) sc_piece_table.nd rfl (Or.inr rfl)) (pss_one (ps_asg (pe_callTy (show CallR _ _ (rTupleOf K) from call_tupleOf) (by rfl) T.tuple (by decide +kernel) (pa_cons (pe_lc (own := [("b", 5)]) rfl sc_piece_table.nd (show PI _ _ _ (iList K _) from pi_list (pv 1)) (blkOk_by (N := ["chart", "unwished", "comes_to", "table", "a", "b"]) (sc := L2.defScope s_piece_table) (by decide +kernel)) (fun _ _ _ _ _ => (pg_name (i := 5) sc_piece_table.nd rfl (Or.inl rfl))) (fun _ _ _ _ _ => pts_one (PW.pt (pw_or (pt_cmpR op_eq (pv 4) (pv 5) (nomark _)) (pw_or1 (PW.pt (pw_and (pt_cmp (pc_din hu (pv 5) (pe_dget hu (pv 2) (pv 4) (fun _ _ => rfl)))) (pw_and1 (pt_cmp (pc_din hu (pv 4) (pe_dget hu (pv 2) (pv 5) (fun _ _ => rfl))))))))))) (fun _ _ _ _ _ => (pv 5))) pa_nil)) (pg_sub (pv 3) (pv 4) set_list))))
      (pss_one (ps_ret (pv 3))))))), ?_⟩
    refine ⟨_, rfl, c, C, rfl, ⟨r, wd, ts, hC⟩, ok, fun u H1 s1 hu0 hU => ?_⟩
    have hC1 := hC.same s1
    refine ⟨_, rfl, u, rfl, ⟨_, .inl (.inl hU)⟩, fun d hd => ?_⟩
    have nud : u ≠ d := ne_of_none hU hd
    refine dc_it (walk_list (K := K) (a := u) (xs := (unw C).map vN)) (fun i H' => ∃ ds : List Addr, ds.length = i ∧ Kp [d] H1 H' ∧ H' d = some (.dK (dictOf ((unw C).take i) ds)) ∧ ∀ (j a : Nat) (e : Addr), (unw C)[j]? = some a → ds[j]? = some e → H' e = some (.dK (keysOf (metU C [a]))) ∧ e ≠ d)
      ⟨[], rfl, (fun b o n e => by rw [upd_ne (ne_of_none e hd)]; exact e), by rw [upd_same]; rfl, fun j a e _ z => by simp at z⟩
      (fun i H' _ ⟨_, _, k, _⟩ => .inl (.inl (k _ _ (by simp [nud]) hU))) ?_ ?_
    · rintro i x Hx H2 hi ⟨ds, el, k2, hD, each⟩ ⟨rfl, hx⟩
      obtain ⟨a, ha, rfl⟩ := get_map hx
      have ham := unw_mem.mp (List.mem_of_getElem? ha)
      refine ⟨rfl, ?_⟩
      refine ⟨_, rfl, ?_⟩
      have hl1 : Lists [d] H2 := by
        intro b hb
        rw [List.mem_singleton.mp hb]
        exact ⟨_, hD, (fun _ z => nomatch z), (fun _ _ z => nomatch z)⟩
      have hl0 : ∀ b ∈ [d], H1 b = none := by
        intro b hb
        rw [List.mem_singleton.mp hb]
        exact hd
      have s12 : Same H1 H2 := fun b o e => k2 b o (fun m => by rw [hl0 b m] at e; cases e) e
      refine ⟨_, rfl, _, rfl, (by show 1 ≤ sizeLine; decide), fun t ht => ?_⟩
      have s23 : Same H2 (upd H2 t (.tup [vN a])) := same_upd ht
      refine ⟨c, t, C, [a], rfl, ⟨r, wd, ts, (hC1.same s12).same s23⟩, ok, .inl (.inl upd_same), (fun b hb => by rw [List.mem_singleton.mp hb]; exact ham.1), (by show 1 ≤ 60; decide), fun g H3 s3 hg hG => ?_⟩
      have s3' : Same H2 H3 := s23.trans s3
      refine ⟨g, rfl, ⟨_, .inl (.inl hG)⟩, fun e he => ?_⟩
      have nge : g ≠ e := ne_of_none hG he
      have nde : d ≠ e := ne_of_none (s3' _ _ hD) he
      have mlen : (metU C [a]).length ≤ C.n := those_len _ _
      refine dc_it (walk_list (K := K) (a := g) (xs := (metU C [a]).map vN)) (fun j H' => Kp [e] H3 H' ∧ H' e = some (.dK (keysOf ((metU C [a]).take j))))
        ⟨fun b o n e1 => by rw [upd_ne (ne_of_none e1 he)]; exact e1, by rw [upd_same]; rfl⟩ (fun j H' _ ⟨k, _⟩ => .inl (.inl (k _ _ (by simp [nge]) hG))) ?_ ?_
      · rintro j y Hy H4 hj ⟨k4, hE⟩ ⟨rfl, hy⟩
        obtain ⟨b, hb, rfl⟩ := get_map hy
        have fresh : b ∉ (metU C [a]).take j := by
          intro m
          obtain ⟨j', hj', e1⟩ := List.getElem_of_mem m
          have lt : j' < j := by
            rw [List.length_take] at hj'
            omega
          have e2 : (metU C [a])[j']? = some b := by
            rw [← e1, List.getElem_take]
            exact List.getElem?_eq_getElem _
          have := up_get (those_up _ _) e2 hb lt
          omega
        refine ⟨rfl, ?_⟩
        refine ⟨_, rfl, _, Sum.inl (b : Int), rfl, hE, ?_, ?_, ?_⟩
        · rw [keysOf_len, List.length_take]
          exact small1000 (by omega)
        · intro x o n e1
          rw [upd_ne (fun z => n (by rw [z]; simp))]
          exact k4 x o n e1
        · rw [upd_same, keysOf_put _ _ fresh, take_more hb]
      · rintro H4 ⟨k4, hE⟩
        rw [List.take_of_length_le (by rw [List.length_map]; exact Nat.le_refl _)] at hE
        have s34 : Same H3 H4 := fun x o e1 => k4 x o (fun m => by rw [List.mem_singleton.mp m, he] at e1; cases e1) e1
        have hD4 : H4 d = some (.dK (dictOf ((unw C).take i) ds)) := s34 _ _ (s3' _ _ hD)
        have elT : ((unw C).take i).length = ds.length := by
          rw [List.length_take, el]
          have : i < (unw C).length := by rw [List.length_map] at hi; exact hi
          omega
        refine ⟨_, Sum.inl (a : Int), rfl, hD4, ?_, ds ++ [e], by rw [List.length_append, el]; rfl, ?_, ?_, ?_⟩
        · rw [dictOf_len _ _ elT, List.length_take]
          exact small1000 (by omega)
        · intro x o n e1
          rw [upd_ne (fun z => n (by rw [z]; simp))]
          exact s34 _ _ (s3' _ _ (s12 _ _ e1))
        · have fresh : a ∉ (unw C).take i := by
            intro m
            obtain ⟨j', hj', e1⟩ := List.getElem_of_mem m
            have lt : j' < i := by
              rw [List.length_take] at hj'
              omega
            have e2 : (unw C)[j']? = some a := by
              rw [← e1, List.getElem_take]
              exact List.getElem?_eq_getElem _
            have := up_get (unw_up C) e2 ha lt
            omega
          rw [upd_same, putK_new _ (dictOf_none _ _ _ fresh), take_more ha, dictOf_more _ _ _ _ elT]
        · intro j b m hb hm
          rw [List.getElem?_append] at hm
          by_cases hj : j < ds.length
          · rw [if_pos hj] at hm
            obtain ⟨e1, e2⟩ := each j b m hb hm
            exact ⟨by rw [upd_ne e2]; exact s34 _ _ (s3' _ _ e1), e2⟩
          · rw [if_neg hj] at hm
            have ej : j = i := by
              have := (List.getElem?_eq_some_iff.mp hm).1
              rw [List.length_singleton] at this
              omega
            subst ej
            have eb : b = a := Option.some.inj (hb.symm.trans ha)
            subst eb
            have em : m = e := by
              rw [el, Nat.sub_self] at hm
              exact (Option.some.inj hm).symm
            subst em
            exact ⟨by rw [upd_ne nde.symm]; exact hE, nde.symm⟩
    · rintro H2 ⟨ds, el, k2, hD, each⟩
      rw [List.length_map] at el
      rw [List.take_of_length_le (by rw [List.length_map]; exact Nat.le_refl _)] at hD
      have s12 : Same H1 H2 := fun b o e => k2 b o (fun m => by rw [List.mem_singleton.mp m, hd] at e; cases e) e
      have hU2 := s12 _ _ hU
      have hC2 := hC1.same s12
      refine ⟨_, rfl, _, _, _, _, rfl, rfl, hC2.top, rfl, _, rfl, by omega, by omega, fun tb htb => ?_⟩
      refine lc_range (lo := 0) (n := C.n) (fun i H' => ∃ rows : List Addr, rows.length = i ∧ Kp [tb] H2 H' ∧ H' tb = some (.lst (rows.map V.ref)) ∧ ∀ (x : Nat) (t : Addr), rows[x]? = some t → H' t = some (.tup [vN x]))
        ⟨[], rfl, (fun b o n e => by rw [upd_ne (ne_of_none e htb)]; exact e), upd_same, fun x t z => by simp at z⟩ ?_ ?_
      · rintro i H3 hi ⟨rows, er, k3, hT, each3⟩
        refine ⟨rfl, ?_⟩
        refine ⟨_, rfl, (by show 1 ≤ sizeLine; decide), fun t ht => ?_⟩
        have ntt : tb ≠ t := ne_of_none hT ht
        have e0 : (0 : Int) + (i : Nat) = (i : Nat) := by omega
        refine ⟨_, Eq.trans (upd_ne ntt) hT, by rw [List.length_map, er]; exact small1000 (by omega), rows ++ [t], by rw [List.length_append, er]; rfl, ?_, by rw [upd_same, List.map_append]; rfl, ?_⟩
        · intro b o n e
          have e3 := k3 b o n e
          rw [upd_ne (fun z => n (by rw [z]; simp)), upd_ne (ne_of_none e3 ht)]
          exact e3
        · intro x m hm
          rw [List.getElem?_append] at hm
          by_cases hj : x < rows.length
          · rw [if_pos hj] at hm
            have e1 := each3 x m hm
            have n1 : m ≠ tb := fun z => by rw [z, hT] at e1; cases e1
            rw [upd_ne n1, upd_ne (ne_of_none e1 ht)]
            exact e1
          · rw [if_neg hj] at hm
            have ej : x = i := by
              have := (List.getElem?_eq_some_iff.mp hm).1
              rw [List.length_singleton] at this
              omega
            subst ej
            have em : m = t := by
              rw [er, Nat.sub_self] at hm
              exact (Option.some.inj hm).symm
            subst em
            rw [upd_ne ntt.symm, upd_same, e0]
            rfl
      · rintro H3 ⟨rows, er, k3, hT, each3⟩
        have s23 : Same H2 H3 := fun b o e => k3 b o (fun m => by rw [List.mem_singleton.mp m, htb] at e; cases e) e
        have hU3 := s23 _ _ hU2
        have nut : u ≠ tb := ne_of_none hU2 htb
        refine ⟨_, rfl, u, rfl, ⟨_, .inl (.inl hU3)⟩, for_list (K := K) (xs := (unw C).map vN) (fun i σ H' => ∃ (rws : List Addr) (v4 v5 : Option V), σ = [some (.ref c), some (.ref u), some (.ref d), some (.ref tb), v4, v5] ∧ Kp [tb] H3 H' ∧ rws.length = C.n ∧ H' tb = some (.lst (rws.map V.ref)) ∧
            ∀ (x : Nat) (t : Addr), rws[x]? = some t → SqT K H' t ((if x ∈ C.wished ∨ x ∈ (unw C).take i then pieceOf C x else [x]).map vN)) ?_ (fun i σ H' _ ⟨_, _, _, _, k, _⟩ => .inl (.inl (k _ _ (by simp [nut]) hU3))) ?_ ?_⟩
        · refine ⟨rows, _, _, rfl, Kp.refl _ _, er, hT, fun x t hx => ?_⟩
          have := each3 x t hx
          rw [List.take_zero]
          have e : (if x ∈ C.wished ∨ x ∈ ([] : List Nat) then pieceOf C x else [x]) = [x] := by
            by_cases hw : x ∈ C.wished
            · rw [if_pos (.inl hw)]
              unfold pieceOf
              rw [if_pos hw]
            · rw [if_neg (by simp [hw])]
          rw [e]
          exact .inl (.inl this)
        · rintro i x σ H4 hx ⟨rws, v4, v5, rfl, k4, er4, hT4, each4⟩
          obtain ⟨a, ha, rfl⟩ := get_map hx
          have ham := unw_mem.mp (List.mem_of_getElem? ha)
          have hT3 : H3 tb = some (.lst (rows.map V.ref)) := hT
          have off : ∀ b o, H2 b = some o → H4 b = some o := fun b o e => k4 b o (by
            intro m
            rw [List.mem_singleton.mp m, htb] at e
            cases e) (s23 b o e)
          refine ⟨_, rfl, u, rfl, ⟨_, .inl (.inl (off _ _ hU2))⟩, fun e he => ?_⟩
          have keep5 : ∀ {H' : Hp}, Kp [e] H4 H' → ∀ b o, H4 b = some o → H' b = some o := fun {H'} k b o q => k b o (fun m => by rw [List.mem_singleton.mp m, he] at q; cases q) q
          refine lc_list (K := K) (xs := (unw C).map vN) (fun j H' => Kp [e] H4 H' ∧ H' e = some (.lst ((((unw C).take j).filter (fun b => decide (a = b) || (decide (b ∈ metU C [a]) && decide (a ∈ metU C [b])))).map vN)))
            ⟨fun b o n q => by rw [upd_ne (ne_of_none q he)]; exact q, upd_same⟩ (fun j H' _ ⟨k, _⟩ => .inl (.inl (keep5 k _ _ (off _ _ hU2)))) ?_ ?_
          · rintro j y H5 hy ⟨k5, hE⟩
            obtain ⟨b, hb, rfl⟩ := get_map hy
            have hbm := unw_mem.mp (List.mem_of_getElem? hb)
            have jl : j < (unw C).length := (List.getElem?_eq_some_iff.mp hb).1
            have il : i < (unw C).length := (List.getElem?_eq_some_iff.mp ha).1
            obtain ⟨da, hda⟩ : ∃ m, ds[i]? = some m := ⟨_, List.getElem?_eq_getElem (by rw [el]; exact il)⟩
            obtain ⟨db, hdb⟩ : ∃ m, ds[j]? = some m := ⟨_, List.getElem?_eq_getElem (by rw [el]; exact jl)⟩
            have hD5 : H5 d = some (.dK (dictOf (unw C) ds)) := keep5 k5 _ _ (off _ _ hD)
            have va := dictOf_val (unw C) ds i a da (up_nodup (unw_up C)) ha hda
            have vb := dictOf_val (unw C) ds j b db (up_nodup (unw_up C)) hb hdb
            have ea : H5 da = some (.dK (keysOf (metU C [a]))) := keep5 k5 _ _ (off _ _ (each i a da ha hda).1)
            have eb : H5 db = some (.dK (keysOf (metU C [b]))) := keep5 k5 _ _ (off _ _ (each j b db hb hdb).1)
            have more : Kp [e] H4 (upd H5 e (.lst ((((unw C).take j).filter (fun b => decide (a = b) || (decide (b ∈ metU C [a]) && decide (a ∈ metU C [b])))).map vN ++ [vN b]))) := by
              intro z o n q
              rw [upd_ne (fun y => n (by rw [y]; simp))]
              exact k5 z o n q
            have short : ((((unw C).take j).filter (fun b => decide (a = b) || (decide (b ∈ metU C [a]) && decide (a ∈ metU C [b])))).map vN).length < sizeLine := by
              rw [List.length_map]
              have h1 := List.length_filter_le (fun b => decide (a = b) || (decide (b ∈ metU C [a]) && decide (a ∈ metU C [b]))) ((unw C).take j)
              have h2 : ((unw C).take j).length ≤ (unw C).length := by rw [List.length_take]; omega
              exact small1000 (by omega)
            have yes : (decide (a = b) || (decide (b ∈ metU C [a]) && decide (a ∈ metU C [b]))) = true → Kp [e] H4 (upd H5 e (.lst ((((unw C).take j).filter (fun b => decide (a = b) || (decide (b ∈ metU C [a]) && decide (a ∈ metU C [b])))).map vN ++ [vN b]))) ∧
                (upd H5 e (.lst ((((unw C).take j).filter (fun b => decide (a = b) || (decide (b ∈ metU C [a]) && decide (a ∈ metU C [b])))).map vN ++ [vN b]))) e = some (.lst ((((unw C).take (j + 1)).filter (fun b => decide (a = b) || (decide (b ∈ metU C [a]) && decide (a ∈ metU C [b])))).map vN)) := by
              intro hc
              refine ⟨more, ?_⟩
              rw [upd_same, take_more hb, List.filter_append, List.filter_cons, hc, if_pos rfl, List.map_append]
              rfl
            have no : (decide (a = b) || (decide (b ∈ metU C [a]) && decide (a ∈ metU C [b]))) = false → Kp [e] H4 H5 ∧ H5 e = some (.lst ((((unw C).take (j + 1)).filter (fun b => decide (a = b) || (decide (b ∈ metU C [a]) && decide (a ∈ metU C [b])))).map vN)) := by
              intro hc
              refine ⟨k5, ?_⟩
              rw [hE, take_more hb, List.filter_append, List.filter_cons, hc, if_neg Bool.false_ne_true, List.filter_nil, List.append_nil]
            refine ⟨rfl, ?_⟩
            refine ⟨_, rfl, _, rfl, rfl, _, rfl, ?_⟩
            have e1 : decide (vN a = vN b) = decide (a = b) := by
              refine decide_eq_decide.mpr ⟨fun z => ?_, fun z => by rw [z]⟩
              have z' : (a : Int) = b := V.int.inj z
              omega
            rw [e1]
            by_cases hab : a = b
            · rw [decide_eq_true hab]
              refine iteT ?_
              exact ⟨_, rfl, _, hE, short, yes (by rw [decide_eq_true hab]; rfl)⟩
            · rw [decide_eq_false hab]
              refine iteF ?_
              have ga : DGet H5 d (vN a) (some (.ref da)) := by
                have z := DGet.k (k := Sum.inl (a : Int)) hD5
                rw [va] at z
                exact z
              have gb : DGet H5 d (vN b) (some (.ref db)) := by
                have z := DGet.k (k := Sum.inl (b : Int)) hD5
                rw [vb] at z
                exact z
              refine ⟨_, rfl, _, rfl, _, rfl, d, _, rfl, ga, da, _, rfl, DGet.k (k := Sum.inl (b : Int)) ea, _, rfl, ?_⟩
              rw [keysOf_val]
              by_cases h1 : b ∈ metU C [a]
              · rw [if_pos h1]
                refine iteT ?_
                refine ⟨_, rfl, _, rfl, _, rfl, d, _, rfl, gb, db, _, rfl, DGet.k (k := Sum.inl (a : Int)) eb, _, rfl, ?_⟩
                rw [keysOf_val]
                by_cases h2 : a ∈ metU C [b]
                · rw [if_pos h2]
                  refine iteT ?_
                  exact ⟨_, rfl, _, hE, short, yes (by rw [decide_eq_true h1, decide_eq_true h2]; simp)⟩
                · rw [if_neg h2]
                  refine iteF ?_
                  exact no (by rw [decide_eq_false hab, decide_eq_false h2]; simp)
              · rw [if_neg h1]
                refine iteF ?_
                refine iteF ?_
                exact no (by rw [decide_eq_false hab, decide_eq_false h1]; simp)
          · rintro H5 ⟨k5, hE⟩
            rw [List.take_of_length_le (by rw [List.length_map]; exact Nat.le_refl _), piece_filter ham.1 ham.2] at hE
            refine ⟨e, _, rfl, .inl ⟨.inl (.inl hE), fun tp htp => ?_⟩⟩
            have kT := keep5 k5 _ _ hT4
            have ntp : tb ≠ tp := ne_of_none kT htp
            have hix : ixN ((rws.map V.ref)).length (a : Int) = some a := by
              unfold ixN
              rw [if_pos (by omega), if_pos (by rw [List.length_map, er4]; exact_mod_cast ham.1)]
              rfl
            refine ⟨_, rfl, _, rfl, tb, _, _, a, rfl, rfl, Eq.trans (upd_ne ntp) kT, hix, ?_⟩
            refine ⟨rws.set a tp, _, _, rfl, ?_, by rw [List.length_set]; exact er4, by rw [upd_same, List.map_set], fun x t hxt => ?_⟩
            · intro b o n q
              have q5 := keep5 k5 _ _ (k4 b o n q)
              rw [upd_ne (fun y => n (by rw [y]; simp)), upd_ne (ne_of_none q5 htp)]
              exact q5
            · rw [List.getElem?_set] at hxt
              by_cases hxa : a = x
              · subst hxa
                rw [if_pos rfl, er4, if_pos ham.1] at hxt
                have et : t = tp := (Option.some.inj hxt).symm
                subst et
                rw [if_pos (.inr (by rw [take_more ha]; simp))]
                refine .inl (.inl ?_)
                rw [upd_ne ntp.symm, upd_same]
              · rw [if_neg hxa] at hxt
                have old := each4 x t hxt
                have ex : (if x ∈ C.wished ∨ x ∈ (unw C).take (i + 1) then pieceOf C x else [x]) = (if x ∈ C.wished ∨ x ∈ (unw C).take i then pieceOf C x else [x]) := by
                  rw [take_more ha]
                  simp only [List.mem_append, List.mem_singleton, fun z : x = a => hxa z.symm, or_false]
                  have nx : ¬ (x = a) := fun z => hxa z.symm
                  simp [nx]
                rw [ex]
                have kk : Kp [tb] H4 (upd (upd H5 tp (.tup ((pieceOf C a).map vN))) tb (.lst ((rws.map V.ref).set a (.ref tp)))) := by
                  intro b o n q
                  have q5 := keep5 k5 _ _ q
                  rw [upd_ne (fun y => n (by rw [y]; simp)), upd_ne (ne_of_none q5 htp)]
                  exact q5
                refine kk.sqT (fun b hb => ?_) old
                rw [List.mem_singleton.mp hb]
                exact ⟨_, hT4, (fun _ z => nomatch z), (fun _ _ z => nomatch z)⟩
        · rintro σ H4 ⟨rws, v4, v5, rfl, k4, er4, hT4, each4⟩
          rw [List.take_of_length_le (by rw [List.length_map]; exact Nat.le_refl _)] at each4
          have all : Same H2 H4 := fun b o e => k4 b o (fun m => by rw [List.mem_singleton.mp m, htb] at e; cases e) (s23 b o e)
          refine ⟨_, rfl, q tb rws H4 (fun b o e => all b o (s12 b o (s1 b o e))) (s1.free (s12.free htb)) hT4 ⟨er4, fun x t hxt => ?_⟩⟩
          have hx := each4 x t hxt
          have hxn : x < C.n := by rw [← er4]; exact (List.getElem?_eq_some_iff.mp hxt).1
          rw [if_pos] at hx
          · exact hx
          · by_cases hw : x ∈ C.wished
            · exact .inl hw
            · exact .inr (unw_mem.mpr ⟨hxn, hw⟩)
end
end Ft

set_option Elab.async false
set_option linter.all false
set_option maxRecDepth 100000
set_option maxHeartbeats 8000000
namespace Ft
open PySem PySem.Spec PyProof.Rows L2
theorem piece_self {C : Chart} {a : Nat} (h : a < C.n) : a ∈ pieceOf C a := by
  unfold pieceOf
  by_cases hw : a ∈ C.wished
  · rw [if_pos hw]
    exact List.mem_singleton.mpr rfl
  · rw [if_neg hw]
    exact those_mem.mpr ⟨h, hw, .inl rfl⟩
theorem piece_up (C : Chart) (a : Nat) : (pieceOf C a).Pairwise (· < ·) := by
  unfold pieceOf
  by_cases hw : a ∈ C.wished
  · rw [if_pos hw]
    exact List.pairwise_singleton _ _
  · rw [if_neg hw]
    exact those_up _ _
theorem piece_lt {C : Chart} {a b : Nat} (ha : a < C.n) (h : b ∈ pieceOf C a) : b < C.n := by
  unfold pieceOf at h
  by_cases hw : a ∈ C.wished
  · rw [if_pos hw] at h
    rw [List.mem_singleton.mp h]
    exact ha
  · rw [if_neg hw] at h
    exact (those_mem.mp h).1
/-- rows of places at the addresses ts -/
def RowsAt (K : PySem.W.Frag) (H : Hp) (ts : List Addr) (lls : List (List Nat)) : Prop := Paired (fun (t : Addr) (l : List Nat) => SqT K H t (l.map vN)) ts lls
theorem RowsAt.keep {K : PySem.W.Frag} {ex : List Addr} {H H' : Hp} (k : Kp ex H H') (l : Lists ex H) {ts : List Addr} {lls : List (List Nat)} (h : RowsAt K H ts lls) : RowsAt K H' ts lls := paired_imp (fun _ _ q => k.sqT l q) h
theorem RowsAt.same {K : PySem.W.Frag} {H H' : Hp} (k : Same H H') {ts : List Addr} {lls : List (List Nat)} (h : RowsAt K H ts lls) : RowsAt K H' ts lls := paired_imp (fun _ _ q => Same.sqT k q) h
theorem paired_app {α β : Type} {R : α → β → Prop} : ∀ {as as' : List α} {bs bs' : List β}, Paired R as bs → Paired R as' bs' → Paired R (as ++ as') (bs ++ bs')
  | _, _, _, _, .nil, h => h
  | _, _, _, _, .cons r t, h => .cons r (paired_app t h)
/-- whether a place is the least one of its piece -/
noncomputable def isLeast (C : Chart) (a : Nat) : Bool := decide ((pieceOf C a).head? = some a)
noncomputable def piecesL (C : Chart) : List (List Nat) := ((unw C).filter (isLeast C)).map (pieceOf C)
section
variable {P : Program} {w : World} {K : PySem.W.Frag} {mg : Str → Option Value} {base : Heap} {t1 t2 : Tok}
end
end Ft

set_option Elab.async false
set_option linter.all false
set_option maxRecDepth 100000
set_option maxHeartbeats 8000000
namespace Ft
open PySem PySem.Spec PyProof.Rows L2
/-- the draws' pool stands at p, its further cells at l -/
def PoolAt (H : Hp) (p l : Addr) : Prop := ∃ (a b : Int) (cs : List Int), H p = some (.lst [.int a, .int b, .ref l]) ∧ H l = some (.lst (cs.map V.int)) ∧ 0 ≤ a ∧ 0 ≤ b
theorem PoolAt.ne {H : Hp} {p l : Addr} (h : PoolAt H p l) : p ≠ l := by
  obtain ⟨a, b, cs, h1, h2, _⟩ := h
  intro e
  subst e
  have z := Option.some.inj (h1.symm.trans h2)
  have z2 : ([V.int a, V.int b, V.ref p] : List V) = cs.map V.int := by injection z
  have z3 : V.ref p ∈ cs.map V.int := by rw [← z2]; simp
  obtain ⟨c, _, e⟩ := List.mem_map.mp z3
  exact nomatch e
theorem PoolAt.lists {H : Hp} {p l : Addr} (h : PoolAt H p l) : Lists [p, l] H := by
  obtain ⟨a, b, cs, h1, h2, _⟩ := h
  intro x hx
  rcases List.mem_cons.mp hx with e | hx
  · rw [e]
    exact ⟨_, h1, (fun _ z => nomatch z), (fun _ _ z => nomatch z)⟩
  · rw [List.mem_singleton.mp hx]
    exact ⟨_, h2, (fun _ z => nomatch z), (fun _ _ z => nomatch z)⟩
theorem PoolAt.same {H H' : Hp} {p l : Addr} (k : Same H H') (h : PoolAt H p l) : PoolAt H' p l := by
  obtain ⟨a, b, cs, h1, h2, h3⟩ := h
  exact ⟨a, b, cs, k _ _ h1, k _ _ h2, h3⟩
theorem PoolAt.free {H : Hp} {p l : Addr} (h : PoolAt H p l) {q : Addr} (n : H q = none) : q ∉ [p, l] := by
  obtain ⟨a, b, cs, h1, h2, _⟩ := h
  intro m
  rcases List.mem_cons.mp m with e | m
  · rw [e, h1] at n
    cases n
  · rw [List.mem_singleton.mp m, h2] at n
    cases n
theorem ints_shaped (cs : List Int) : SeqAt.shaped (.list (cs.map .int)) = true := by
  unfold SeqAt.shaped
  have h1 : ∀ cs : List Int, PyData.canLayAll0 (cs.map .int) = true := by
    intro cs
    induction cs with
    | nil => simp [PyData.canLayAll0]
    | cons c cs ih => simp [PyData.canLayAll0, PyData.canLay0, ih]
  have h2 : PyData.depth (.list (cs.map .int)) = 1 := by
    simp only [PyData.depth, PySem.W.depth_ints]
  rw [h2]
  simp [PyData.canLay0, h1]
section
variable {P : Program} {w : World} {K : PySem.W.Frag} {mg : Str → Option Value} {base : Heap} {t1 t2 : Tok}
/-! ### _law_pool -/
def sp_law_pool (K : PySem.W.Frag) : Sp := fun vs H Q _ => ∃ (a : Addr) (ns : List Int), vs = [.ref a] ∧ SqL K H a (ns.map V.int) ∧ ∀ p l H', Same H H' → H p = none → H l = none → PoolAt H' p l → Q (.ref p) H'
theorem cal_law_pool (T : Txt mg) (D : Def K mg "_law_pool" s_law_pool) : Cal P w K mg base 2 "_law_pool" (sp_law_pool K) := by
  refine cal_of D sc_law_pool (fun _ _ _ _ _ _ us hl => match us, hl with | [_], _ => rfl) (fun vs H Q E h => ?_) (fun f cdv A outer s H vs Q E hr h => ?_)
  · obtain ⟨a, ns, rfl, _⟩ := h
    rfl
  · obtain ⟨a, ns, rfl, hS, q⟩ := h
    refine ⟨_, (pss_cons (ps_set (i := 1) sc_law_pool.nd rfl (Or.inl rfl) (pe_mid (pe_ifExp (pt_cmpR op_gt (pe_callB (show CallR _ _ (rLenS K) from call_lenS) (by rfl) T.len (by decide +kernel) (pa_cons (pv 0) pa_nil)) pe_int (nomark _)) (pe_callTy call_int1 (by rfl) T.int (by decide +kernel) (pa_cons (pe_ix (show IxR _ (rIxL K) from ix_list) (pv 0) pe_int (fun _ _ => rfl)) pa_nil)) pe_int)))
      (pss_cons (ps_set (i := 2) sc_law_pool.nd rfl (Or.inl rfl) (pe_mid (pe_ifExp (pt_cmpR op_ge (pv 1) pe_int (nomark _)) (pe_op op_mul pe_int (pv 1)) (pe_op op_sub (pe_un un_neg pe_int) (pe_op op_mul pe_int (pv 1))))))
      (pss_one (ps_ret (pe_lst (pa_cons (pe_mid (pe_ifExp (pt_cmpR op_ge (pv 2) (pe_op op_pow pe_int pe_int) (nomark _)) (pv 2) pe_int)) (pa_cons (pe_op op_add (pe_op op_mod (pe_callTy call_int1 (by rfl) T.int (by decide +kernel) (pa_cons (pe_op op_add (pe_op op_mul (pv 2) pe_int) pe_int) pa_nil)) pe_int) pe_int) (pa_cons (pe_callTy (show CallR _ _ (rListOf K) from call_listOf) (by rfl) T.list (by decide +kernel) (pa_cons (pe_slice (show SlR _ (rSlL K) from sl_list) (pv 0) (po_some pe_int) po_none) pa_nil)) pa_nil)))))))), ?_⟩
    refine ⟨fun v H' => ∃ x : Int, v = .int x ∧ H' = H, ⟨_, rfl, a, _, rfl, .inl hS, _, _, rfl, rfl, _, rfl, ite_any (fun h => ?_) (fun h => ⟨0, rfl, rfl⟩)⟩, ?_⟩
    · have h0 := of_decide_eq_true h
      cases ns with
      | nil => exact absurd h0 (by simp)
      | cons n0 ns => exact ⟨_, rfl, a, _, _, _, rfl, rfl, hS, atI_nat (j := 0) (v := V.int n0) rfl, .inl ⟨_, rfl, _, rfl, rfl⟩⟩
    rintro v H1 ⟨x, rfl, rfl⟩
    refine ⟨fun v H' => ∃ x : Int, v = .int x ∧ H' = H1 ∧ 0 ≤ x, ⟨_, rfl, _, _, rfl, rfl, _, rfl, ite_any (fun h => ?_) (fun h => ?_)⟩, ?_⟩
    · have h0 := of_decide_eq_true h
      exact ⟨_, rfl, _, _, rfl, rfl, .inl ⟨by decide, by decide⟩, _, rfl, rfl, by omega⟩
    · have h0 := of_decide_eq_false h
      exact ⟨_, rfl, _, rfl, _, _, rfl, rfl, .inl ⟨by decide, by decide⟩, _, _, rfl, rfl, _, rfl, rfl, by omega⟩
    rintro v H2 ⟨y, rfl, rfl, hy⟩
    refine ⟨fun v H' => ∃ x : Int, v = .int x ∧ H' = H2 ∧ 0 ≤ x, ⟨_, rfl, _, _, rfl, rfl, ⟨by decide, by decide, by decide⟩, _, _, rfl, rfl, _, rfl, ite_any (fun h => ⟨_, rfl, y, rfl, rfl, hy⟩) (fun h => ⟨0, rfl, rfl, by decide⟩)⟩, ?_⟩
    rintro v H3 ⟨z, rfl, rfl, hz⟩
    refine ⟨_, rfl, _, _, rfl, rfl, .inr ⟨by decide, by decide⟩, _, _, rfl, rfl, .inl ⟨_, rfl, _, _, rfl, rfl, (by show (0 : Int) < 2147483629; decide), _, _, rfl, rfl, ?_⟩⟩
    refine ⟨_, rfl, _, rfl, a, _, rfl, hS, fun e he => ?_⟩
    refine ⟨e, _, rfl, .inl (.inl (.inl upd_same)), fun l hl => ?_⟩
    refine ⟨by show 3 ≤ sizeLine; decide, fun p hp => ?_⟩
    have nel : e ≠ l := ne_of_none upd_same hl
    have npl : l ≠ p := ne_of_none upd_same hp
    have hl0 : H3 l = none := by rw [upd_ne nel.symm] at hl; exact hl
    have s1 : Same H3 (upd (upd H3 e (.lst (cutV (ns.map V.int) (some 1) none))) l (.lst (cutV (ns.map V.int) (some 1) none))) := (same_upd he).trans (same_upd hl)
    refine q p l _ (s1.trans (same_upd hp)) (s1.free hp) hl0 ?_
    refine ⟨z, _, (cutV (ns.map V.int) (some 1) none).map (fun v => match v with | .int i => i | _ => 0), upd_same, ?_, hz, ?_⟩
    · rw [upd_ne npl, upd_same]
      congr 2
      rw [List.map_map]
      conv => lhs; rw [← List.map_id (cutV (ns.map V.int) (some 1) none)]
      refine List.map_congr_left fun v hv => ?_
      have : v ∈ ns.map V.int := by
        unfold cutV at hv
        exact List.mem_of_mem_drop (List.mem_of_mem_take hv)
      obtain ⟨i, _, rfl⟩ := List.mem_map.mp this
      rfl
    · have := Int.emod_nonneg (y * 48271 + 1009) (show (2147483629 : Int) ≠ 0 by decide)
      omega
/-! ### _law_draw -/
def sp_law_draw : Sp := fun vs H Q _ => ∃ (p l : Addr) (m : Nat), vs = [.ref p, vN m] ∧ PoolAt H p l ∧ 0 < m ∧ m < 1073741824 ∧ ∀ (r : Nat) H', r < m → PoolAt H' p l → Kp [p, l] H H' → Q (vN r) H'
theorem cal_law_draw (T : Txt mg) (D : Def K mg "_law_draw" s_law_draw) : Cal P w K mg base 2 "_law_draw" sp_law_draw := by
  refine cal_of D sc_law_draw (fun _ _ _ _ _ _ us hl => match us, hl with | [_, _], _ => rfl) (fun vs H Q E h => ?_) (fun f cdv A outer s H vs Q E hr h => ?_)
  · obtain ⟨p, l, m, rfl, _⟩ := h
    rfl
  · obtain ⟨p, l, m, rfl, hP, m0, m1, q⟩ := h
    have hU := hr.units
    have npl := hP.ne
    refine ⟨_, (ps_cut (ps_if (PW.pt (pw_and (pt_cmpR op_eq (pe_ix (show IxR _ (rIxL K) from ix_list) (pv 0) pe_int (fun _ _ => rfl)) pe_int (nomark _)) (pw_and1 (pt_cmpR (show OpR _ _ (rNeD K) from op_neD hU) (pe_ix (show IxR _ (rIxL K) from ix_list) (pv 0) pe_int (fun _ _ => rfl)) (pe_lst pa_nil) (nomark _))))) (pss_cons (ps_set (i := 2) sc_law_draw.nd rfl (Or.inl rfl) (pe_callTy call_int1 (by rfl) T.int (by decide +kernel) (pa_cons (pe_bm PySem.F.plainAttrs_list PySem.F.slot_list_pop PySem.F.type_list_pop mt_popAt (pe_ix (show IxR _ (rIxL K) from ix_list) (pv 0) pe_int (fun _ _ => rfl)) (pa_cons pe_int pa_nil)) pa_nil)))
        (pss_cons (ps_set (i := 3) sc_law_draw.nd rfl (Or.inl rfl) (pe_mid (pe_ifExp (pt_cmpR op_ge (pv 2) pe_int (nomark _)) (pe_op op_mul pe_int (pv 2)) (pe_op op_sub (pe_un un_neg pe_int) (pe_op op_mul pe_int (pv 2))))))
        (pss_cons (ps_asg (pe_mid (pe_ifExp (pt_cmpR op_ge (pv 3) (pe_op op_pow pe_int pe_int) (nomark _)) (pv 3) pe_int)) (pg_sub (pv 0) pe_int set_list))
        (pss_one (ps_asg (pe_op op_add (pe_op op_mod (pe_callTy call_int1 (by rfl) T.int (by decide +kernel) (pa_cons (pe_op op_add (pe_ix (show IxR _ (rIxL K) from ix_list) (pv 0) pe_int (fun _ _ => rfl)) (pe_op op_mul (pv 3) pe_int)) pa_nil)) pe_int) pe_int) (pg_sub (pv 0) pe_int set_list)))))) pss_nil)
      (pss_cons (ps_if (pt_cmpR op_gt (pe_ix (show IxR _ (rIxL K) from ix_list) (pv 0) pe_int (fun _ _ => rfl)) pe_int (nomark _)) (pss_cons (ps_set (i := 4) sc_law_draw.nd rfl (Or.inl rfl) (pe_op op_mod (pe_callTy call_int1 (by rfl) T.int (by decide +kernel) (pa_cons (pe_ix (show IxR _ (rIxL K) from ix_list) (pv 0) pe_int (fun _ _ => rfl)) pa_nil)) (pv 1)))
        (pss_cons (ps_asg (pe_op op_fdiv (pe_ix (show IxR _ (rIxL K) from ix_list) (pv 0) pe_int (fun _ _ => rfl)) (pv 1)) (pg_sub (pv 0) pe_int set_list))
        (pss_one (ps_ret (pv 4))))) pss_nil)
      (pss_cons (ps_asg (pe_op op_mod (pe_callTy call_int1 (by rfl) T.int (by decide +kernel) (pa_cons (pe_op op_add (pe_op op_mul (pe_ix (show IxR _ (rIxL K) from ix_list) (pv 0) pe_int (fun _ _ => rfl)) pe_int) pe_int) pa_nil)) pe_int) (pg_sub (pv 0) pe_int set_list))
      (pss_one (ps_ret (pe_op op_mod (pe_op op_fdiv (pe_op op_mod (pe_callTy call_int1 (by rfl) T.int (by decide +kernel) (pa_cons (pe_op op_mul (pe_ix (show IxR _ (rIxL K) from ix_list) (pv 0) pe_int (fun _ _ => rfl)) (pe_ix (show IxR _ (rIxL K) from ix_list) (pv 0) pe_int (fun _ _ => rfl))) pa_nil)) pe_int) pe_int) (pv 1))))))), ?_⟩
    refine ⟨fun σ' H' => ∃ v2 v3 : Option V, σ' = [some (.ref p), some (vN m), v2, v3, none] ∧ PoolAt H' p l ∧ Kp [p, l] H H', ?_, ?_⟩
    · obtain ⟨a, b, cs, h1, h2, ha, hb⟩ := id hP
      refine ⟨_, rfl, p, _, _, _, rfl, rfl, .inl (.inl h1), rfl, rfl, _, rfl, ite_any (fun _ => ?_) (fun _ => ?_)⟩
      · refine ⟨_, rfl, p, _, _, _, rfl, rfl, .inl (.inl h1), rfl, Nat.zero_le _, fun e he => ?_⟩
        have s1 : Same H (upd H e (.lst [])) := same_upd he
        have nep : p ≠ e := ne_of_none h1 he
        have nel : l ≠ e := ne_of_none h2 he
        have h1' := s1 _ _ h1
        have h2' := s1 _ _ h2
        refine ⟨.list (cs.map .int), .list [], .lst (.inl (.inl h2')) (dpAll_ints cs), .lst (.inl (.inl upd_same)) .nil, ints_shaped cs, rfl, _, rfl, ite_any (fun hc => ?_) (fun _ => ?_)⟩
        · cases cs with
          | nil => exact absurd hc (by decide)
          | cons c cs =>
            have n1 : (-(2 ^ 63) : Int) ≤ 0 := by decide
            have n2 : (0 : Int) < 2 ^ 63 := by decide
            refine ⟨_, rfl, p, _, _, _, rfl, rfl, .inl (.inl h1'), rfl, .inl ⟨rfl, _, .inl (.inl h2')⟩, l, _, 0, 0, .int c, rfl, rfl, h2', n1, n2, ?_, rfl, .inl ⟨_, rfl, ?_⟩⟩
            · simp [seqIndex?]
            have h1b : (upd (upd H e (.lst [])) l (.lst ((List.map V.int (c :: cs)).eraseIdx 0))) p = some (.lst [.int a, .int b, .ref l]) := by rw [upd_ne npl]; exact h1'
            obtain ⟨Hc, eHc⟩ : ∃ Hc, Hc = upd (upd H e (.lst [])) l (.lst ((List.map V.int (c :: cs)).eraseIdx 0)) := ⟨_, rfl⟩
            rw [← eHc] at h1b ⊢
            refine ⟨fun v H' => ∃ x : Int, v = .int x ∧ H' = Hc ∧ 0 ≤ x, ⟨_, rfl, _, _, rfl, rfl, _, rfl, ite_any (fun h => ?_) (fun h => ?_)⟩, ?_⟩
            · have h0 := of_decide_eq_true h
              exact ⟨_, rfl, _, _, rfl, rfl, .inl ⟨by decide, by decide⟩, _, rfl, rfl, by omega⟩
            · have h0 := of_decide_eq_false h
              exact ⟨_, rfl, _, rfl, _, _, rfl, rfl, .inl ⟨by decide, by decide⟩, _, _, rfl, rfl, _, rfl, rfl, by omega⟩
            rintro v H2 ⟨y, rfl, rfl, hy⟩
            refine ⟨fun v H' => ∃ x : Int, v = .int x ∧ H' = H2 ∧ 0 ≤ x, ⟨_, rfl, _, _, rfl, rfl, ⟨by decide, by decide, by decide⟩, _, _, rfl, rfl, _, rfl, ite_any (fun h => ⟨_, rfl, y, rfl, rfl, hy⟩) (fun h => ⟨0, rfl, rfl, by decide⟩)⟩, ?_⟩
            rintro v H3 ⟨z, rfl, rfl, hz⟩
            subst eHc
            refine ⟨_, rfl, p, _, _, 0, rfl, rfl, h1b, rfl, ?_⟩
            refine ⟨_, rfl, p, _, _, _, rfl, rfl, .inl (.inl upd_same), rfl, _, rfl, _, _, rfl, rfl, .inr ⟨by decide, by decide⟩, _, _, rfl, rfl, .inl ⟨_, rfl, _, _, rfl, rfl, (by show (0 : Int) < 2147483629; decide), _, _, rfl, rfl, ?_⟩⟩
            refine ⟨_, rfl, p, _, _, 1, rfl, rfl, upd_same, rfl, ?_⟩
            refine ⟨_, _, rfl, ⟨z, _, cs, upd_same, ?_, hz, ?_⟩, ?_⟩
            · rw [upd_ne npl.symm, upd_ne npl.symm, upd_same]
              rfl
            · have := Int.emod_nonneg (b + y * 69621) (show (2147483629 : Int) ≠ 0 by decide)
              omega
            · intro b' o n e'
              have n1 : b' ≠ p := fun z => n (by rw [z]; simp)
              have n2 : b' ≠ l := fun z => n (by rw [z]; simp)
              rw [upd_ne n1, upd_ne n1, upd_ne n2]
              exact s1 _ _ e'
        · exact ⟨_, _, rfl, hP.same s1, Same.kp s1⟩
      · exact ⟨_, _, rfl, hP, Kp.refl _ _⟩
    · rintro σ' H1 ⟨v2, v3, rfl, ⟨a, b, cs, h1, h2, ha, hb⟩, k1⟩
      refine ⟨_, rfl, p, _, _, _, rfl, rfl, .inl (.inl h1), rfl, _, _, rfl, rfl, _, rfl, ite_any (fun hc => ?_) (fun hc => ?_)⟩
      · refine ⟨_, rfl, p, _, _, _, rfl, rfl, .inl (.inl h1), rfl, .inl ⟨_, rfl, _, rfl, _, _, rfl, rfl, (by show (0 : Int) < (m : Int); omega), ?_⟩⟩
        refine ⟨_, rfl, p, _, _, _, rfl, rfl, .inl (.inl h1), rfl, _, rfl, _, _, rfl, rfl, ⟨by show (0 : Int) < (m : Int); omega, by show (m : Int) < 1073741824; omega⟩, ?_⟩
        refine ⟨_, rfl, p, _, _, 0, rfl, rfl, h1, rfl, ?_⟩
        have h3 := Int.emod_nonneg a (show (m : Int) ≠ 0 by omega)
        have h4 := Int.emod_lt_of_pos a (show (0 : Int) < m by omega)
        refine ⟨_, rfl, ?_⟩
        have e0 : V.int (a % (m : Int)) = vN (a % (m : Int)).toNat := by
          unfold vN
          rw [Int.toNat_of_nonneg h3]
        show Q (V.int (a % (m : Int))) _
        rw [e0]
        refine q _ _ (by omega) ⟨a / m, b, cs, upd_same, by rw [upd_ne npl.symm]; exact h2, Int.ediv_nonneg ha (by omega), hb⟩ ?_
        intro b' o n e'
        rw [upd_ne (fun z => n (by rw [z]; simp))]
        exact k1 _ _ n e'
      · refine ⟨_, rfl, p, _, _, _, rfl, rfl, .inl (.inl h1), rfl, _, _, rfl, rfl, .inr ⟨by decide, by decide⟩, _, _, rfl, rfl, .inl ⟨_, rfl, _, _, rfl, rfl, (by show (0 : Int) < 2147483647; decide), ?_⟩⟩
        refine ⟨_, rfl, p, _, _, 1, rfl, rfl, h1, rfl, ?_⟩
        have h3 := Int.emod_nonneg (b * 48271 + 11) (show (2147483647 : Int) ≠ 0 by decide)
        have h4 := Int.emod_lt_of_pos (b * 48271 + 11) (show (0 : Int) < 2147483647 by decide)
        refine ⟨_, rfl, p, _, _, _, rfl, rfl, .inl (.inl upd_same), rfl, _, rfl, p, _, _, _, rfl, rfl, .inl (.inl upd_same), rfl, _, _, rfl, rfl, .inl ⟨by omega, by omega⟩, .inl ⟨_, rfl, _, _, rfl, rfl, (by show (0 : Int) < 2147483629; decide), ?_⟩⟩
        refine ⟨_, _, rfl, rfl, ⟨by decide, by decide⟩, _, rfl, _, _, rfl, rfl, (by show (0 : Int) < (m : Int); omega), ?_⟩
        have h5 := Int.emod_nonneg ((b * 48271 + 11) % 2147483647 * ((b * 48271 + 11) % 2147483647) % 2147483629 / 32) (show (m : Int) ≠ 0 by omega)
        have h6 := Int.emod_lt_of_pos ((b * 48271 + 11) % 2147483647 * ((b * 48271 + 11) % 2147483647) % 2147483629 / 32) (show (0 : Int) < m by omega)
        show Q (V.int (((b * 48271 + 11) % 2147483647 * ((b * 48271 + 11) % 2147483647) % 2147483629 / 32) % (m : Int))) _
        generalize ((b * 48271 + 11) % 2147483647 * ((b * 48271 + 11) % 2147483647) % 2147483629 / 32) % (m : Int) = z at h5 h6 ⊢
        have e0 : V.int z = vN z.toNat := by
          unfold vN
          rw [Int.toNat_of_nonneg h5]
        rw [e0]
        refine q _ _ (by omega) ⟨a, (b * 48271 + 11) % 2147483647, cs, upd_same, by rw [upd_ne npl.symm]; exact h2, ha, h3⟩ ?_
        intro b' o n e'
        rw [upd_ne (fun z => n (by rw [z]; simp))]
        exact k1 _ _ n e'
end
end Ft

set_option Elab.async false
set_option linter.all false
set_option maxRecDepth 100000
set_option maxHeartbeats 4000000
/-! isinstance of the error that a suite holds, whose class is known only then and which has a dict of its own. -/
namespace Ft
open PySem PySem.Spec PyProof.Rows L2
/-- what a class says so that isinstance asks its errors rightly -/
structure IsC (K : PySem.W.Frag) (C : Addr) : Prop where
  cl : (PySem.W.clsIn K C).isSome = true
  ga : PySem.W.findIn K (.ref C) "__getattribute__" = some (some (.builtin "BaseException.__getattribute__"))
  gg : PySem.W.findIn K (.ref C) "__getattr__" = some none
  ex : PySem.W.subIn K (.ref C) (.type "BaseException") = some true
  ha : PySem.W.findIn K (.ref C) "__class__" = some (some (.builtin "object.__class__"))
  hn : PySem.W.specialIn K (.builtin "object.__class__") "__get__" = some (some (.builtin "getset_descriptor.__get__"))
  ht : PySem.W.takesIn K (.builtin "object.__class__") = some true
  hm : PySem.W.mroIn K C (.type "object") = some true
def rIsX (K : PySem.W.Frag) (a : Addr) (cls : Value) (d : Option Addr) (cv : Value) : List V → Hp → VK → Prop := fun xs H Q => ∃ (c : V) (b : Bool) (C dd : Addr) (v : V), xs = [.ref a, c] ∧ (∀ u, RelV c u → u = cv) ∧ cls = .ref C ∧ IsC K C ∧ d = some dd ∧ H dd = some (.xd [("what", v)]) ∧ PySem.W.kitOne K (.ref C) cv = some b ∧ Q (.bl b) H
theorem call_isX {X : Cx} {a : Addr} {oe : Obj} {cls : Value} {d : Option Addr} {cv : Value} {pn : List (Addr × Obj)} (hz : Zc cls d oe) (hf : ∃ vs, oe.data = .fields vs) : CallR (X.suite a ((a, oe) :: pn)) (.builtin "isinstance") (rIsX X.K a cls d cv) := by
  intro pins s σ H xs us Q I r h
  obtain ⟨c, b, C, dd, v, rfl, hcv, rfl, ic, rfl, hdd, e, q⟩ := h
  cases r with
  | cons rx rr =>
    cases rr with
    | cons rt rr =>
      cases rr
      cases rx
      have ec := hcv _ rt
      subst ec
      obtain ⟨ha, _⟩ := I.pin (a, oe) (List.mem_append_left _ List.mem_cons_self)
      obtain ⟨vs, hd⟩ := hf
      have hx : ObjOk X.prog X.w H s.heap dd (.xd [("what", v)]) := I.hok dd _ hdd
      obtain ⟨mA, hns, hr⟩ := hx
      obtain ⟨od, ho, hl⟩ := lookIn_ns hns
      have J : PySem.W.InstAt s.heap a oe C (some od) := ⟨ha, hz.1, by unfold PySem.W.notCls; rw [hd] <;> rfl, by rw [hz.2]; exact ho⟩
      exact PySem.W.kia_one (PySem.W.kitx_exc ic.cl ic.ga ic.gg ic.ex ic.ha ic.hn ic.ht ic.hm) I.kIn J e (fun z => nomatch z) fun tk => ⟨.bl b, H, I.kept (t' := tk) fun _ _ z => z, rfl, q⟩
/-- an error of class c is one of class d, too; of the builtin one d -/
def Kit (K : PySem.W.Frag) (ca : Str → Addr) (c d : Str) : Prop := PySem.W.kitOne K (.ref (ca c)) (.ref (ca d)) = some true
def KitB (K : PySem.W.Frag) (ca : Str → Addr) (c : Str) (d : String) : Prop := PySem.W.kitOne K (.ref (ca c)) (.type d) = some true
end Ft

set_option Elab.async false
set_option linter.all false
set_option maxRecDepth 100000
set_option maxHeartbeats 4000000
namespace Ft
open PySem PySem.Spec PyProof.Rows L2
/-! x in t, t a tuple of data of any depth; t[i], t a list or a tuple; a class as a value -/
def rInTD (K : PySem.W.Frag) : R2 := fun x y H Q => ∃ d ds, Dp K H x d ∧ Dp K H y (.tuple ds) ∧ SeqAt.shaped d = true ∧ SeqAt.shaped (.tuple ds) = true ∧ Q (.bl (ds.any fun z => PyData.eqv z d)) H
def rNotInTD (K : PySem.W.Frag) : R2 := fun x y H Q => ∃ d ds, Dp K H x d ∧ Dp K H y (.tuple ds) ∧ SeqAt.shaped d = true ∧ SeqAt.shaped (.tuple ds) = true ∧ Q (.bl (!ds.any fun z => PyData.eqv z d)) H
theorem op_inTD {X : Cx} (hu : X.A.units + 65 < cLine) : OpR X (compareOp .In) (rInTD X.K) := by
  intro pins s σ H x y v u Q I rx ry h
  obtain ⟨d, ds, hd, he, sd, se, q⟩ := h
  obtain ⟨as, r1⟩ := Dp.reads I d x v hd rx
  obtain ⟨bs, r2⟩ := Dp.reads I (.tuple ds) y u he ry
  exact SeqAt.in_tuple_reads r2 r1 (SeqAt.canLay_of_shaped se) (SeqAt.canLay_of_shaped sd) (room_in_shaped sd hu) ⟨.bl _, H, I, rfl, q⟩
theorem op_notInTD {X : Cx} (hu : X.A.units + 65 < cLine) : OpR X (compareOp .NotIn) (rNotInTD X.K) := by
  intro pins s σ H x y v u Q I rx ry h
  obtain ⟨d, ds, hd, he, sd, se, q⟩ := h
  obtain ⟨as, r1⟩ := Dp.reads I d x v hd rx
  obtain ⟨bs, r2⟩ := Dp.reads I (.tuple ds) y u he ry
  exact SeqAt.notIn_tuple_reads r2 r1 (SeqAt.canLay_of_shaped se) (SeqAt.canLay_of_shaped sd) (room_in_shaped sd hu) ⟨.bl _, H, I, rfl, q⟩
def rIxA (K : PySem.W.Frag) : R2 := fun x y H Q => rIxL K x y H Q ∨ rIxT K x y H Q
theorem ix_any {X : Cx} : IxR X (rIxA X.K) := fun value slice pins s σ H x y v u Q I rx ry h hs => h.elim (fun h => ix_list value slice pins s σ H x y v u Q I rx ry h hs) (fun h => ix_tup value slice pins s σ H x y v u Q I rx ry h hs)
theorem pe_globC {X : Cx} {x : Str} {C : Addr} {pos : Pos} (hg : Gl X x) (h : X.mg x = some (.ref C)) (hd : (x == ("__debug__" : Str)) = false := by decide) : PE X (.Name x pos) (tC (.ref C)) := pe_glob (v := .ref C) hg h rfl hd
end Ft

set_option Elab.async false
set_option linter.all false
set_option maxRecDepth 100000
set_option maxHeartbeats 8000000
namespace Ft
open PySem PySem.Spec PyProof.Rows L2
theorem seqIndex_nat {r n : Nat} (h : r < n) : seqIndex? (r : Int) n = some r := by
  unfold seqIndex?
  have h0 : ¬ ((r : Int) < 0) := by omega
  have h1 : (r : Int) < n := by omega
  have h2 : (0 : Int) ≤ (r : Int) := by omega
  simp [h0, h1, h2]
theorem map_erase {α β : Type} (f : α → β) : ∀ (l : List α) (i : Nat), (l.map f).eraseIdx i = (l.eraseIdx i).map f
  | [], _ => rfl
  | _ :: _, 0 => rfl
  | a :: l, i + 1 => congrArg (f a :: ·) (map_erase f l i)
theorem cons_erase {α : Type} : ∀ {l : List α} {r : Nat} {x : α}, l[r]? = some x → (x :: l.eraseIdx r).Perm l
  | [], _, _, h => by simp at h
  | a :: l, 0, x, h => by
    have e : a = x := by simpa using h
    rw [e]
    exact List.Perm.refl _
  | a :: l, r + 1, x, h => (List.Perm.swap a x (l.eraseIdx r)).trans ((cons_erase (l := l) (r := r) (by simpa using h)).cons a)
theorem rgV_nat (n : Nat) : rgV 0 (n : Int) = (List.range n).map vN := by
  unfold rgV
  have e : ((n : Int) - 0).toNat = n := by omega
  rw [e]
  refine List.map_congr_left fun i _ => ?_
  show V.int (0 + (i : Int)) = V.int (i : Int)
  rw [Int.zero_add]
section
variable {P : Program} {w : World} {K : PySem.W.Frag} {mg : Str → Option Value} {base : Heap} {t1 t2 : Tok}
/-! ### _law_pick, of a list -/
def sp_law_pick (K : PySem.W.Frag) : Sp := fun vs H Q _ => ∃ (p l t : Addr) (xs : List V), vs = [.ref p, .ref t] ∧ PoolAt H p l ∧ SqL K H t xs ∧ t ∉ [p, l] ∧ 0 < xs.length ∧ xs.length < 1073741824 ∧ ∀ x H', x ∈ xs → PoolAt H' p l → Kp [p, l] H H' → Q x H'
theorem cal_law_pick (T : Txt mg) (D : Def K mg "_law_pick" s_law_pick) (c_law_draw : Cal P w K mg base 2 "_law_draw" sp_law_draw) : Cal P w K mg base 3 "_law_pick" (sp_law_pick K) := by
  refine cal_of D sc_law_pick (fun _ _ _ _ _ _ us hl => match us, hl with | [_, _], _ => rfl) (fun vs H Q E h => ?_) (fun f cdv A outer s H vs Q E hr h => ?_)
  · obtain ⟨p, l, t, xs, rfl, _⟩ := h
    rfl
  · obtain ⟨p, l, t, xs, rfl, hP, hT, off, n0, n1, q⟩ := h
    refine ⟨_, (pss_one (ps_ret (pe_ix (show IxR _ (rIxL K) from ix_list) (pv 1) (pe_c c_law_draw hr (by decide) (by rfl) (pa_cons (pv 0) (pa_cons (pe_callB (show CallR _ _ (rLenS K) from call_lenS) (by rfl) T.len (by decide +kernel) (pa_cons (pv 1) pa_nil)) pa_nil))) (fun _ _ => rfl)))), ?_⟩
    refine ⟨_, rfl, _, rfl, _, rfl, t, xs, rfl, .inl hT, p, l, xs.length, rfl, hP, n0, n1, fun r H1 hr1 hP1 k1 => ?_⟩
    exact ⟨t, xs, (r : Int), _, rfl, rfl, k1.sqL off hT, atI_nat (List.getElem?_eq_getElem hr1), q _ _ (List.getElem_mem hr1) hP1 k1⟩
/-! ### _law_turned -/
def sp_law_turned (K : PySem.W.Frag) : Sp := fun vs H Q _ => ∃ (p l : Addr) (m : Nat), vs = [.ref p, vN m] ∧ PoolAt H p l ∧ m ≤ 1000 ∧ ∀ (q : Addr) (perm : List Nat) (H' : Hp), perm.Perm (List.range m) → H q = none → H' q = some (.lst (perm.map vN)) → PoolAt H' p l → Kp [p, l] H H' → Q (.ref q) H'
theorem cal_law_turned (T : Txt mg) (D : Def K mg "_law_turned" s_law_turned) (c_law_draw : Cal P w K mg base 2 "_law_draw" sp_law_draw) : Cal P w K mg base 3 "_law_turned" (sp_law_turned K) := by
  refine cal_of D sc_law_turned (fun _ _ _ _ _ _ us hl => match us, hl with | [_, _], _ => rfl) (fun vs H Q E h => ?_) (fun f cdv A outer s H vs Q E hr h => ?_)
  · obtain ⟨p, l, m, rfl, _⟩ := h
    rfl
  · obtain ⟨p, l, m, rfl, hP, m1, q⟩ := h
    refine ⟨_, (pss_cons (ps_par (i := 2) (j := 3) (by rfl) sc_law_turned.nd rfl rfl (by decide) rfl rfl (pa_cons (pe_listRg rfl (by rfl) T.list (prg_1 (by rfl) T.range (pv 1))) (pa_cons (pe_lst pa_nil) pa_nil)) (by rfl))
      (pss_cons (ps_for PassesOwn.never rfl (pi_range1 (by rfl) T.range (pa_cons (pv 1) pa_nil)) (pg_name (i := 4) sc_law_turned.nd rfl (Or.inl rfl)) (pss_one (ps_expr (pe_bm PySem.F.plainAttrs_list PySem.F.slot_list_append PySem.F.type_list_append mt_append (pv 3) (pa_cons (pe_bm PySem.F.plainAttrs_list PySem.F.slot_list_pop PySem.F.type_list_pop mt_popAt (pv 2) (pa_cons (pe_c c_law_draw hr (by decide) (by rfl) (pa_cons (pv 0) (pa_cons (pe_callB (show CallR _ _ (rLenS K) from call_lenS) (by rfl) T.len (by decide +kernel) (pa_cons (pv 2) pa_nil)) pa_nil))) pa_nil)) pa_nil)))))
      (pss_one (ps_ret (pv 3))))), ?_⟩
    refine ⟨_, rfl, _, rfl, .of_le (by omega) (by omega) (by omega) (by omega), fun a ha => ?_⟩
    have s1 : Same H (upd H a (.lst (rgV 0 (m : Int)))) := same_upd ha
    have hA : (upd H a (.lst (rgV 0 (m : Int)))) a = some (.lst ((List.range m).map vN)) := by rw [upd_same, rgV_nat]
    generalize upd H a (.lst (rgV 0 (m : Int))) = H1 at s1 hA
    refine ⟨Nat.zero_le _, fun d hd => ?_⟩
    have nad : a ≠ d := ne_of_none hA hd
    have s2 : Same H1 (upd H1 d (.lst [])) := same_upd hd
    refine ⟨_, _, rfl, ?_⟩
    have k0 : ∀ b, b ∈ [p, l] → b ≠ a ∧ b ≠ d := by
      intro b hb
      obtain ⟨o, e, _⟩ := hP.lists b hb
      exact ⟨ne_of_none e ha, ne_of_none (s1 _ _ e) hd⟩
    refine ⟨_, rfl, _, rfl, by omega, by omega, for_range (lo := 0) (n := m) (fun i σ H' => ∃ (L F : List Nat) (v4 : Option V), σ = [some (.ref p), some (vN m), some (.ref a), some (.ref d), v4] ∧ PoolAt H' p l ∧ Kp [p, l] H H' ∧ H' a = some (.lst (L.map vN)) ∧ H' d = some (.lst (F.map vN)) ∧ (F ++ L).Perm (List.range m) ∧ F.length = i)
      ⟨List.range m, [], _, rfl, (hP.same s1).same s2, Same.kp (s1.trans s2), s2 _ _ hA, upd_same, List.Perm.refl _, rfl⟩ ?_ ?_⟩
    · rintro i σ H2 hi ⟨L, F, v4, rfl, hP2, k2, hL, hF, pm, eF⟩
      have len := pm.length_eq
      rw [List.length_append, List.length_range, eF] at len
      refine ⟨_, rfl, .inl ⟨rfl, _, .inl (.inl hF)⟩, _, rfl, .inl ⟨rfl, _, .inl (.inl hL)⟩, ?_⟩
      refine ⟨_, rfl, _, rfl, a, _, rfl, .inl (.inl (.inl hL)), p, l, L.length, ?_, hP2, by omega, by omega, fun r H3 hr3 hP3 k3 => ?_⟩
      · rw [List.length_map]
        rfl
      have na : a ∉ [p, l] := fun m => (k0 a m).1 rfl
      have nd : d ∉ [p, l] := fun m => (k0 d m).2 rfl
      have hL3 := k3 _ _ na hL
      have hF3 := k3 _ _ nd hF
      obtain ⟨x, hx⟩ : ∃ x, L[r]? = some x := ⟨_, List.getElem?_eq_getElem hr3⟩
      refine ⟨a, _, (r : Int), r, vN x, rfl, rfl, hL3, by omega, by omega, seqIndex_nat (by rw [List.length_map]; exact hr3), by rw [List.getElem?_map, hx]; rfl, ?_⟩
      have hF4 : (upd H3 a (.lst ((L.map vN).eraseIdx r))) d = some (.lst (F.map vN)) := by rw [upd_ne nad.symm]; exact hF3
      refine ⟨d, _, _, rfl, rfl, hF4, by rw [List.length_map, eF]; exact small1000 (by omega), L.eraseIdx r, F ++ [x], _, rfl, ?_, ?_, ?_, ?_, ?_, by rw [List.length_append, eF]; rfl⟩
      · obtain ⟨a1, b1, cs, h1, h2, h3⟩ := hP3
        exact ⟨a1, b1, cs, by rw [upd_ne (k0 p (by simp)).2, upd_ne (k0 p (by simp)).1]; exact h1, by rw [upd_ne (k0 l (by simp)).2, upd_ne (k0 l (by simp)).1]; exact h2, h3⟩
      · intro b o n e
        have na1 : b ≠ a := ne_of_none e ha
        have nd1 : b ≠ d := ne_of_none (s1 _ _ e) hd
        rw [upd_ne nd1, upd_ne na1]
        exact k3 b o n (k2 b o n e)
      · rw [upd_ne nad, upd_same, map_erase]
      · rw [upd_same, List.map_append]
        rfl
      · have pe : (x :: L.eraseIdx r).Perm L := cons_erase hx
        have e1 : F ++ [x] ++ L.eraseIdx r = F ++ (x :: L.eraseIdx r) := by simp
        rw [e1]
        exact (List.Perm.append_left F pe).trans pm
    · rintro σ H2 ⟨L, F, v4, rfl, hP2, k2, hL, hF, pm, eF⟩
      have len := pm.length_eq
      rw [List.length_append, List.length_range, eF] at len
      have eL : L = [] := List.length_eq_zero_iff.mp (by omega)
      subst eL
      rw [List.append_nil] at pm
      exact ⟨_, rfl, q d F H2 pm (s1.free hd) hF hP2 k2⟩
end
end Ft

set_option Elab.async false
set_option linter.all false
set_option maxRecDepth 100000
set_option maxHeartbeats 8000000
namespace Ft
open PySem PySem.Spec PyProof.Rows L2
/-! ### rows of two numbers, sorted -/
def two (p : Nat × Nat) : List Int := [(p.1 : Int), (p.2 : Int)]
theorem two_lt {p q : Nat × Nat} (le : two p ≤ two q) (ne : two p ≠ two q) : ltP p q := by
  unfold two at le ne
  rw [List.cons_le_cons_iff] at le
  rcases le with h | ⟨h1, h2⟩
  · exact .inl (by omega)
  · rw [List.cons_le_cons_iff] at h2
    rcases h2 with h | ⟨h3, _⟩
    · exact .inr ⟨by omega, by omega⟩
    · exact absurd (by rw [h1, h3]) ne
theorem two_inj {p q : Nat × Nat} (h : two p = two q) : p = q := by
  unfold two at h
  simp only [List.cons.injEq, and_true] at h
  exact Prod.ext (by omega) (by omega)
theorem rows_two : ∀ (L : List Row), (∀ r ∈ L, ∃ p, r.2 = two p) → ∃ ps : List (Nat × Nat), L.map (·.2) = ps.map two
  | [], _ => ⟨[], rfl⟩
  | r :: L, h => by
    obtain ⟨p, hp⟩ := h r List.mem_cons_self
    obtain ⟨ps, hps⟩ := rows_two L fun q hq => h q (List.mem_cons_of_mem _ hq)
    exact ⟨p :: ps, by rw [List.map_cons, List.map_cons, hp, hps]⟩
theorem rows_up {L : List Row} {ps : List (Nat × Nat)} (e : L.map (·.2) = ps.map two) (up : L.Pairwise fun q r => q.2 ≤ r.2) (nd : (L.map (·.2)).Nodup) : ps.Pairwise ltP := by
  have h1 : (ps.map two).Pairwise (· ≤ ·) := by
    rw [← e]
    exact List.pairwise_map.mpr up
  rw [e] at nd
  have h2 := List.Pairwise.and h1 nd
  exact (List.pairwise_map.mp h2).imp fun h => two_lt h.1 h.2
theorem rows_pairs {K : PySem.W.Frag} {H : Hp} : ∀ {L : List Row} {ps : List (Nat × Nat)}, L.map (·.2) = ps.map two → (∀ r ∈ L, SqT K H r.1 (r.2.map V.int)) → PairsAt K H (L.map (·.1)) ps
  | [], [], _, _ => .nil
  | [], _ :: _, e, _ => nomatch e
  | _ :: _, [], e, _ => nomatch e
  | r :: L, p :: ps, e, h => by
    rw [List.map_cons, List.map_cons] at e
    injection e with e1 e2
    refine .cons ?_ (rows_pairs e2 fun q hq => h q (List.mem_cons_of_mem _ hq))
    have := h r List.mem_cons_self
    rw [e1] at this
    exact this
/-! ### maps whose places are named anew -/
/-- the new name of a place -/
def nm (perm : List Nat) (a : Nat) : Nat := perm.getD a 0
theorem nm_get {perm : List Nat} {a : Nat} (h : a < perm.length) : perm[a]? = some (nm perm a) := by
  unfold nm
  rw [List.getD_eq_getElem?_getD, List.getElem?_eq_getElem h]
  rfl
structure Named (n : Nat) (prs : List (Nat × Nat)) (ws perm : List Nat) (C : Chart) : Prop where
  n : C.n = n
  ok : C.Ok
  roads : ∀ x y, (x, y) ∈ C.roads ↔ ∃ a b, (a, b) ∈ prs ∧ x = nm perm a ∧ y = nm perm b
  wished : ∀ x, x ∈ C.wished ↔ ∃ a ∈ ws, x = nm perm a
theorem perm_lt {perm : List Nat} {n : Nat} (pm : perm.Perm (List.range n)) {a : Nat} (h : a < n) : nm perm a < n := by
  have len : perm.length = n := by rw [pm.length_eq, List.length_range]
  have := List.mem_of_getElem? (nm_get (perm := perm) (a := a) (by rw [len]; exact h))
  exact List.mem_range.mp (pm.mem_iff.mp this)
theorem nm_at {perm : List Nat} {n : Nat} (pm : perm.Perm (List.range n)) {a : Nat} (h : a < n) : atI (perm.map vN) (a : Int) = some (vN (nm perm a)) := by
  have len : perm.length = n := by rw [pm.length_eq, List.length_range]
  refine atI_nat ?_
  rw [List.getElem?_map, nm_get (by rw [len]; exact h)]
  rfl
section
variable {P : Program} {w : World} {K : PySem.W.Frag} {mg : Str → Option Value} {base : Heap} {t1 t2 : Tok}
/-! ### _law_map_named -/
def sp_law_map_named (K : PySem.W.Frag) : Sp := fun vs H Q _ => ∃ (p l ro wi : Addr) (n : Nat) (ts : List Addr) (prs : List (Nat × Nat)) (ws : List Nat), vs = [.ref p, vN n, .ref ro, .ref wi] ∧ PoolAt H p l ∧ n ≤ 60 ∧
  H ro = some (.lst (ts.map V.ref)) ∧ ro ∉ [p, l] ∧ PairsAt K H ts prs ∧ prs.length < 64 ∧ (∀ q ∈ prs, q.1 < n ∧ q.2 < n) ∧ H wi = some (.lst (ws.map vN)) ∧ wi ∉ [p, l] ∧ ws.length < 64 ∧ (∀ a ∈ ws, a < n) ∧
  ∀ (q c na : Addr) (perm : List Nat) (C : Chart) (H' : Hp), perm.Perm (List.range n) → H q = none → H na = none → H' q = some (.lst [.ref c, .ref na]) → IsChart K H' c C → H' na = some (.lst (perm.map vN)) → Named n prs ws perm C → PoolAt H' p l → Kp [p, l] H H' → Q (.ref q) H'
theorem cal_law_map_named (T : Txt mg) (D : Def K mg "_law_map_named" s_law_map_named) (c_law_turned : Cal P w K mg base 3 "_law_turned" (sp_law_turned K)) : Cal P w K mg base 4 "_law_map_named" (sp_law_map_named K) := by
  refine cal_of D sc_law_map_named (fun _ _ _ _ _ _ us hl => match us, hl with | [_, _, _, _], _ => rfl) (fun vs H Q E h => ?_) (fun f cdv A outer s H vs Q E hr h => ?_)
  · obtain ⟨p, l, ro, wi, n, ts, prs, ws, rfl, _⟩ := h
    rfl
  · obtain ⟨p, l, ro, wi, n, ts, prs, ws, rfl, hP, n60, hRo, oR, hPr, fewP, inP, hWi, oW, fewW, inW, q⟩ := h
    have hU := hr.units
    refine ⟨_, (pss_cons (ps_set (i := 4) sc_law_map_named.nd rfl (Or.inr rfl) (pe_c c_law_turned hr (by decide) (by rfl) (pa_cons (pv 0) (pa_cons (pv 1) pa_nil))))
      (pss_cons (ps_set (i := 5) sc_law_map_named.nd rfl (Or.inl rfl) (pe_callTy (show CallR _ _ (rTupleOf K) from call_tupleOf) (by rfl) T.tuple (by decide +kernel) (pa_cons (pe_callB (show CallR _ _ (rSortedS K P w) from cr_sortedSR rfl hU) (by rfl) T.sorted (by decide +kernel) (pa_cons (pe_callTy (show CallR _ _ (rSetOfT K P w) from cr_setOfT rfl hU) (by rfl) T.set (by decide +kernel) (pa_cons (pe_lc (own := [("a", 6), ("b", 7)]) rfl sc_law_map_named.nd (show PI _ _ _ (iList K _) from pi_list (pv 2)) (blkOk_by (N := ["pool", "places", "roads", "wished", "names", "told", "a", "b"]) (sc := L2.defScope s_law_map_named) (by decide +kernel)) (fun _ _ _ _ _ => (show PG _ _ (gTup K 2 _) from pg_tup (by rfl) (pgs_cons (pg_name (i := 6) sc_law_map_named.nd rfl (Or.inl rfl)) (pgs_cons (pg_name (i := 7) sc_law_map_named.nd rfl (Or.inl rfl)) pgs_nil)))) (fun _ _ _ _ _ => pts_nil) (fun _ _ _ _ _ => (pe_tup (pa_cons (pe_ix (show IxR _ (rIxL K) from ix_list) (pv 4) (pv 6) (fun _ _ => rfl)) (pa_cons (pe_ix (show IxR _ (rIxL K) from ix_list) (pv 4) (pv 7) (fun _ _ => rfl)) pa_nil))))) pa_nil)) pa_nil)) pa_nil)))
      (pss_one (ps_ret (pe_lst (pa_cons (pe_tup (pa_cons (pv 1) (pa_cons (pv 5) (pa_cons (pe_callTy (show CallR _ _ (rTupleOf K) from call_tupleOf) (by rfl) T.tuple (by decide +kernel) (pa_cons (pe_callB (show CallR _ _ (rSortedSet w) from cr_sortedSet rfl) (by rfl) T.sorted (by decide +kernel) (pa_cons (pe_callTy (show CallR _ _ (rSetI K w) from cr_setI rfl) (by rfl) T.set (by decide +kernel) (pa_cons (pe_lc (own := [("a", 6)]) rfl sc_law_map_named.nd (show PI _ _ _ (iList K _) from pi_list (pv 3)) (blkOk_by (N := ["pool", "places", "roads", "wished", "names", "told", "a", "b"]) (sc := L2.defScope s_law_map_named) (by decide +kernel)) (fun _ _ _ _ _ => (pg_name (i := 6) sc_law_map_named.nd rfl (Or.inl rfl))) (fun _ _ _ _ _ => pts_nil) (fun _ _ _ _ _ => (pe_ix (show IxR _ (rIxL K) from ix_list) (pv 4) (pv 6) (fun _ _ => rfl)))) pa_nil)) pa_nil)) pa_nil)) pa_nil)))) (pa_cons (pv 4) pa_nil))))))), ?_⟩
    refine ⟨_, rfl, _, rfl, p, l, n, rfl, hP, by omega, fun na perm H1 pm hna hN hP1 k1 => ?_⟩
    have hRo1 := k1 _ _ oR hRo
    have hWi1 := k1 _ _ oW hWi
    have hPr1 : PairsAt K H1 ts prs := hPr.keep k1 hP.lists
    refine ⟨_, rfl, ro, rfl, ⟨_, .inl (.inl hRo1)⟩, fun d hd => ?_⟩
    have keep : ∀ {H' : Hp}, Kp [d] H1 H' → Same H1 H' := fun {H'} k b o e => k b o (fun m => by rw [List.mem_singleton.mp m, hd] at e; cases e) e
    refine lc_list (K := K) (xs := ts.map V.ref) (fun i H' => ∃ rows : List Row, rows.map (·.2) = (prs.take i).map (fun q => two (nm perm q.1, nm perm q.2)) ∧ Kp [d] H1 H' ∧ H' d = some (.lst (rows.map fun r => V.ref r.1)) ∧ ∀ r ∈ rows, H' r.1 = some (.tup (r.2.map V.int)))
      ⟨[], rfl, (fun b o x e => by rw [upd_ne (ne_of_none e hd)]; exact e), upd_same, fun r h => nomatch h⟩ (fun i H' _ ⟨_, _, k, _⟩ => .inl (.inl (keep k _ _ hRo1))) ?_ ?_
    · rintro i x H2 hx ⟨rows, e2, k2, hD, all⟩
      obtain ⟨t, ht, rfl⟩ := get_map hx
      obtain ⟨q0, hq0, pt⟩ := paired_getL hPr1 ht
      obtain ⟨b1, b2⟩ := inP q0 (List.mem_of_getElem? hq0)
      have hN2 := keep k2 _ _ hN
      have il : i < prs.length := (List.getElem?_eq_some_iff.mp hq0).1
      have el : rows.length = i := by
        have := congrArg List.length e2
        rw [List.length_map, List.length_map, List.length_take] at this
        omega
      refine ⟨t, _, rfl, Same.sqT (keep k2) pt, rfl, _, _, rfl, _, _, rfl, rfl, rfl, ?_⟩
      refine ⟨_, rfl, _, rfl, na, _, _, _, rfl, rfl, .inl (.inl hN2), nm_at pm b1, _, rfl, _, rfl, na, _, _, _, rfl, rfl, .inl (.inl hN2), nm_at pm b2, (by show 2 ≤ sizeLine; decide), fun e he => ?_⟩
      have nde : d ≠ e := ne_of_none hD he
      refine ⟨_, Eq.trans (upd_ne nde) hD, by rw [List.length_map, el]; exact small1000 (by omega), rows ++ [(e, two (nm perm q0.1, nm perm q0.2))], ?_, ?_, by rw [upd_same, List.map_append]; rfl, ?_⟩
      · rw [List.map_append, e2, take_more hq0, List.map_append]
        rfl
      · intro b o nb eb
        have := k2 b o nb eb
        rw [upd_ne (fun z => nb (by rw [z]; simp)), upd_ne (ne_of_none this he)]
        exact this
      · intro r hr'
        rcases List.mem_append.mp hr' with hr' | hr'
        · have := all r hr'
          have n1 : r.1 ≠ d := fun z => by rw [z, hD] at this; cases this
          rw [upd_ne n1, upd_ne (ne_of_none this he)]
          exact this
        · rw [List.mem_singleton.mp hr', upd_ne nde.symm, upd_same]
          rfl
    rintro H2 ⟨rows, e2, k2, hD, all⟩
    rw [List.take_of_length_le (by rw [List.length_map]; exact Nat.le_of_eq (Paired.length hPr1).symm)] at e2
    have elen : rows.length = prs.length := by
      have := congrArg List.length e2
      rw [List.length_map, List.length_map] at this
      exact this
    have shape : ∀ r ∈ rows, ∃ z, r.2 = two z := by
      intro r hr'
      have : r.2 ∈ rows.map (·.2) := List.mem_map.mpr ⟨r, hr', rfl⟩
      rw [e2] at this
      obtain ⟨z, _, ez⟩ := List.mem_map.mp this
      exact ⟨_, ez.symm⟩
    refine ⟨d, rows, rfl, .inl (.inl hD), (fun r hr' => .inl (.inl (all r hr'))), by omega, fun a L ha sub sup => ?_⟩
    have s3 : Same H2 (upd H2 a (SetTO P w a L)) := same_upd ha
    refine ⟨a, L, rfl, upd_same, (fun r hr' => Same.sqT s3 (.inl (.inl (all r (sub r hr'))))), (fun r hr' => by obtain ⟨z, ez⟩ := shape r (sub r hr'); rw [ez]; exact fun y => nomatch y), fun L' u pm' nd few pw hu' => ?_⟩
    have s4 : Same H2 (upd (upd H2 a (SetTO P w a L)) u (.lst (L'.map fun r => V.ref r.1))) := s3.trans (same_upd hu')
    refine ⟨u, _, rfl, .inl ⟨.inl (.inl upd_same), fun tp htp => ?_⟩⟩
    have s5 := s4.trans (same_upd (o := .tup (L'.map fun r => V.ref r.1)) htp)
    have hTp : (upd (upd (upd H2 a (SetTO P w a L)) u (.lst (L'.map fun r => V.ref r.1))) tp (.tup (L'.map fun r => V.ref r.1))) tp = some (.tup (L'.map fun r => V.ref r.1)) := upd_same
    generalize upd (upd (upd H2 a (SetTO P w a L)) u (.lst (L'.map fun r => V.ref r.1))) tp (.tup (L'.map fun r => V.ref r.1)) = H3 at s5 hTp
    have sub' : ∀ r ∈ L', r ∈ rows := fun r hr' => sub r (pm'.mem_iff.mp hr')
    obtain ⟨rds, erds⟩ := rows_two L' fun r hr' => shape r (sub' r hr')
    have upR : rds.Pairwise ltP := rows_up erds pw nd
    have hRd : PairsAt K H3 (L'.map (·.1)) rds := rows_pairs erds fun r hr' => .inl (.inl (s5 _ _ (all r (sub' r hr'))))
    have memR : ∀ x y, (x, y) ∈ rds ↔ ∃ a b, (a, b) ∈ prs ∧ x = nm perm a ∧ y = nm perm b := by
      intro x y
      have h1 : (x, y) ∈ rds ↔ two (x, y) ∈ rds.map two := by
        constructor
        · intro h
          exact List.mem_map.mpr ⟨_, h, rfl⟩
        · intro h
          obtain ⟨z, hz, ez⟩ := List.mem_map.mp h
          rw [← two_inj ez]
          exact hz
      rw [h1, ← erds]
      constructor
      · intro h
        obtain ⟨r, hr', er⟩ := List.mem_map.mp h
        have : r.2 ∈ rows.map (·.2) := List.mem_map.mpr ⟨r, sub' r hr', rfl⟩
        rw [e2, er] at this
        obtain ⟨⟨a', b'⟩, hab, ez⟩ := List.mem_map.mp this
        have := two_inj ez
        injection this with z1 z2
        exact ⟨a', b', hab, z1.symm, z2.symm⟩
      · rintro ⟨a', b', hab, rfl, rfl⟩
        have : two (nm perm a', nm perm b') ∈ rows.map (·.2) := by
          rw [e2]
          exact List.mem_map.mpr ⟨(a', b'), hab, rfl⟩
        obtain ⟨r, hr', er⟩ := List.mem_map.mp this
        have h2 := sup r hr'
        rw [er] at h2
        exact (pm'.map (·.2)).mem_iff.mpr h2
    have s13 : Same H1 H3 := (keep k2).trans s5
    have hN3 := s13 _ _ hN
    have hWi3 := s13 _ _ hWi1
    refine ⟨_, rfl, _, rfl, _, rfl, wi, rfl, ⟨_, .inl (.inl hWi3)⟩, fun d2 hd2 => ?_⟩
    have keep2 : ∀ {H' : Hp}, Kp [d2] H3 H' → Same H3 H' := fun {H'} k b o e => k b o (fun m => by rw [List.mem_singleton.mp m, hd2] at e; cases e) e
    refine lc_list (K := K) (xs := ws.map vN) (fun i H' => Kp [d2] H3 H' ∧ H' d2 = some (.lst (((ws.take i).map (nm perm)).map vN)))
      ⟨(fun b o x e => by rw [upd_ne (ne_of_none e hd2)]; exact e), upd_same⟩ (fun i H' _ ⟨k, _⟩ => .inl (.inl (keep2 k _ _ hWi3))) ?_ ?_
    · rintro i x H4 hx ⟨k4, hD4⟩
      obtain ⟨a', ha', rfl⟩ := get_map hx
      have il : i < ws.length := (List.getElem?_eq_some_iff.mp ha').1
      refine ⟨rfl, ?_⟩
      refine ⟨_, rfl, _, rfl, na, _, _, _, rfl, rfl, .inl (.inl (keep2 k4 _ _ hN3)), nm_at pm (inW a' (List.mem_of_getElem? ha')), _, hD4, ?_, ?_, ?_⟩
      · rw [List.length_map, List.length_map, List.length_take]
        exact small1000 (by omega)
      · intro b o nb eb
        rw [upd_ne (fun z => nb (by rw [z]; simp))]
        exact k4 b o nb eb
      · rw [upd_same, take_more ha', List.map_append, List.map_append]
        rfl
    rintro H4 ⟨k4, hD4⟩
    rw [List.take_of_length_le (by rw [List.length_map]; exact Nat.le_refl _)] at hD4
    refine ⟨d2, iN (ws.map (nm perm)), rfl, .inl (.inl (.inl (by rw [← vN_map]; exact hD4))), by rw [iN_length, List.length_map]; omega, fun p2 n2 hp2 hn2 => ?_⟩
    rw [iN_length, List.length_map] at hn2
    refine ⟨p2, _, n2, rfl, upd_same, by omega, fun ns u2 up2 mem2 _ hu2 => ?_⟩
    refine ⟨u2, _, rfl, .inl ⟨.inl (.inl upd_same), fun tw htw => ?_⟩⟩
    have s6 : Same H4 (upd (upd (upd H4 p2 (SetO w p2 (fun j => decide (j ∈ iN (ws.map (nm perm)))) n2)) u2 (.lst (ns.map V.int))) tw (.tup (ns.map V.int))) := ((same_upd hp2).trans (same_upd hu2)).trans (same_upd htw)
    have hTw : (upd (upd (upd H4 p2 (SetO w p2 (fun j => decide (j ∈ iN (ws.map (nm perm)))) n2)) u2 (.lst (ns.map V.int))) tw (.tup (ns.map V.int))) tw = some (.tup (ns.map V.int)) := upd_same
    generalize upd (upd (upd H4 p2 (SetO w p2 (fun j => decide (j ∈ iN (ws.map (nm perm)))) n2)) u2 (.lst (ns.map V.int))) tw (.tup (ns.map V.int)) = H5 at s6 hTw
    have s15 : Same H1 H5 := s13.trans ((keep2 k4).trans s6)
    have s35 : Same H3 H5 := (keep2 k4).trans s6
    obtain ⟨wl, ewl, memW⟩ : ∃ wl : List Nat, ns = iN wl ∧ ∀ x, x ∈ wl ↔ x ∈ ws.map (nm perm) := by
      have nn : ∀ y ∈ ns, 0 ≤ y := by
        intro y hy
        have := of_decide_eq_true ((mem2 y).mp hy)
        unfold iN at this
        obtain ⟨z, _, ez⟩ := List.mem_map.mp this
        omega
      refine ⟨ns.map Int.toNat, ?_, fun x => ?_⟩
      · unfold iN
        rw [List.map_map]
        conv => lhs; rw [← List.map_id ns]
        exact List.map_congr_left fun y hy => (Int.toNat_of_nonneg (nn y hy)).symm
      · constructor
        · intro h
          obtain ⟨y, hy, ey⟩ := List.mem_map.mp h
          have h2 := of_decide_eq_true ((mem2 y).mp hy)
          have h3 : y = (x : Int) := by
            have := nn y hy
            omega
          rw [h3] at h2
          exact iN_mem.mp h2
        · intro h
          exact List.mem_map.mpr ⟨(x : Int), (mem2 _).mpr (decide_eq_true (iN_mem.mpr h)), by omega⟩
    have upW : wl.Pairwise (· < ·) := by
      rw [ewl] at up2
      unfold iN at up2
      exact (List.pairwise_map.mp up2).imp fun h => by omega
    refine ⟨by show 3 ≤ sizeLine; decide, fun ct hct => ?_⟩
    have s7 : Same H5 (upd H5 ct (.tup [vN n, .ref tp, .ref tw])) := same_upd hct
    refine ⟨_, rfl, by show 2 ≤ sizeLine; decide, fun qa hqa => ?_⟩
    have s8 := s7.trans (same_upd (o := .lst [.ref ct, .ref na]) hqa)
    have s18 := s15.trans s8
    have len : perm.length = n := by rw [pm.length_eq, List.length_range]
    refine q qa ct na perm ⟨n, rds, wl⟩ _ pm ?_ hna upd_same ⟨tp, tw, L'.map (·.1), ?_, ?_, ?_, ?_⟩ (s18 _ _ hN) ⟨rfl, ⟨n60, ?_, ?_, upR, ?_, upW⟩, memR, ?_⟩ (hP1.same s18) ?_
    · have h1 := (s15.trans s7).free hqa
      cases eq : H qa with
      | none => rfl
      | some o =>
        have : qa ∉ [p, l] := by
          intro m
          obtain ⟨o', e', _⟩ := hP1.lists qa m
          rw [e'] at h1
          cases h1
        rw [k1 _ _ this eq] at h1
        cases h1
    · exact .inl (.inl (by rw [upd_ne (ne_of_none upd_same hqa)]; exact upd_same))
    · refine .inl (.inl ?_)
      have := s8 _ _ (s35 _ _ hTp)
      rw [List.map_map]
      exact this
    · exact hRd.keep (Same.kp (ex := []) (s35.trans s8)) (lists_nil _)
    · refine .inl (.inl ?_)
      have := s8 _ _ hTw
      rw [vN_map, ← ewl]
      exact this
    · show rds.length ≤ 240
      have e := congrArg List.length erds
      rw [List.length_map, List.length_map] at e
      omega
    · rintro ⟨x, y⟩ hxy
      obtain ⟨a', b', hab, e1, e3⟩ := (memR x y).mp hxy
      obtain ⟨b1, b2⟩ := inP _ hab
      rw [e1, e3]
      exact ⟨perm_lt pm b1, perm_lt pm b2⟩
    · intro x hx
      obtain ⟨a', ha', e1⟩ := List.mem_map.mp ((memW x).mp hx)
      rw [← e1]
      exact perm_lt pm (inW a' ha')
    · intro x
      rw [memW x, List.mem_map]
      exact ⟨fun ⟨a', h1, h2⟩ => ⟨a', h1, h2.symm⟩, fun ⟨a', h1, h2⟩ => ⟨a', h1, h2.symm⟩⟩
    · exact k1.trans (Same.kp s18)
end
end Ft

set_option Elab.async false
set_option linter.all false
set_option maxRecDepth 100000
set_option maxHeartbeats 8000000
namespace Ft
open PySem PySem.Spec PyProof.Rows L2
/-- ascending places below i -/
structure Upto (F : List Nat) (i : Nat) : Prop where
  up : F.Pairwise (· < ·)
  lt : ∀ a ∈ F, a < i
theorem Upto.nil (i : Nat) : Upto [] i := ⟨.nil, fun _ h => nomatch h⟩
theorem Upto.wider {F : List Nat} {i : Nat} (h : Upto F i) : Upto F (i + 1) := ⟨h.up, fun a m => Nat.lt_succ_of_lt (h.lt a m)⟩
theorem Upto.more {F : List Nat} {i : Nat} (h : Upto F i) : Upto (F ++ [i]) (i + 1) := by
  refine ⟨List.pairwise_append.mpr ⟨h.up, List.pairwise_singleton _ _, fun a ha b hb => ?_⟩, fun a m => ?_⟩
  · rw [List.mem_singleton.mp hb]
    exact h.lt a ha
  · rcases List.mem_append.mp m with m | m
    · exact Nat.lt_succ_of_lt (h.lt a m)
    · rw [List.mem_singleton.mp m]
      omega
theorem Upto.len {F : List Nat} {i : Nat} (h : Upto F i) : F.length ≤ i := up_len h.up h.lt
theorem upto_range (n : Nat) : Upto (List.range n) n := ⟨range_up n, fun _ h => List.mem_range.mp h⟩
theorem nodup_lt_len {l : List Nat} {n : Nat} (nd : l.Nodup) (b : ∀ a ∈ l, a < n) : l.length ≤ n := by
  have := nat_nodup_len l (List.range n) nd fun x hx => List.mem_range.mpr (b x hx)
  rwa [List.length_range] at this
/-! ### a list of pairs as data -/
def encP (p : Nat × Nat) : PyData := .tuple [.int (p.1 : Int), .int (p.2 : Int)]
theorem pairs_shaped (ps : List (Nat × Nat)) : SeqAt.shaped (.list (ps.map encP)) = true := by
  unfold SeqAt.shaped
  have h1 : PyData.canLayAll0 (ps.map encP) = true := by
    induction ps with
    | nil => simp [PyData.canLayAll0]
    | cons c cs ih => simp [PyData.canLayAll0, PyData.canLay0, encP, ih]
  have h2 : PyData.depthAll (ps.map encP) ≤ 1 := by
    induction ps with
    | nil => simp [PyData.depthAll]
    | cons c cs ih =>
      have ih' := ih (by
        have := h1
        simp [PyData.canLayAll0, PyData.canLay0, encP] at this
        exact this)
      simp [PyData.depthAll, PyData.depth, encP]
      omega
  simp [PyData.canLay0, h1, PyData.depth]
  omega
theorem dpAll_pairs {K : PySem.W.Frag} {H : Hp} : ∀ (L : List (Addr × (Nat × Nat))), (∀ r ∈ L, SqT K H r.1 [vN r.2.1, vN r.2.2]) → DpAll K H (L.map fun r => V.ref r.1) (L.map fun r => encP r.2)
  | [], _ => .nil
  | r :: L, h => .cons (.tup (h r List.mem_cons_self) (.cons (.int _) (.cons (.int _) .nil))) (dpAll_pairs L fun q hq => h q (List.mem_cons_of_mem _ hq))
theorem in_vN {x : Nat} {F : List Nat} : inV (vN x) (F.map vN) = decide (x ∈ F) := by
  rw [Bool.eq_iff_iff]
  unfold inV
  rw [List.any_map, List.any_eq_true, decide_eq_true_eq]
  constructor
  · rintro ⟨y, hy, e⟩
    have : (y : Int) = x := by simpa [eqV, vN] using e
    have : y = x := by omega
    exact this ▸ hy
  · intro h
    exact ⟨x, h, by simp [eqV, vN]⟩
theorem all_vN (F : List Nat) : (F.map vN).all flatV = true := by
  rw [List.all_map, List.all_eq_true]
  intro x _
  rfl
theorem PoolAt.set {H : Hp} {p l e : Addr} {o : HO} (n : e ∉ [p, l]) (h : PoolAt H p l) : PoolAt (upd H e o) p l := by
  obtain ⟨a, b, cs, h1, h2, h3⟩ := h
  exact ⟨a, b, cs, by rw [upd_ne (fun z => n (by simp [z]))]; exact h1, by rw [upd_ne (fun z => n (by simp [z]))]; exact h2, h3⟩
/-- what was made on the way does not count -/
theorem kp_made {p l e : Addr} {H H1 H2 : Hp} (k : Kp [p, l] H H1) (he : H1 e = none) (k2 : Kp [p, l, e] H1 H2) : Kp [p, l] H H2 := fun b o nb eb => by
  have e1 := k b o nb eb
  refine k2 b o (fun m => ?_) e1
  simp only [List.mem_cons, List.not_mem_nil, or_false] at m nb
  rcases m with m | m | m
  · exact nb (.inl m)
  · exact nb (.inr m)
  · rw [m, he] at e1
    cases e1
section
variable {P : Program} {w : World} {K : PySem.W.Frag} {mg : Str → Option Value} {base : Heap} {t1 t2 : Tok}
/-! ### _law_map_some_wished -/
def sp_law_map_some_wished (K : PySem.W.Frag) : Sp := fun vs H Q _ => ∃ (p l ro : Addr) (n : Nat) (ts : List Addr) (prs : List (Nat × Nat)), vs = [.ref p, vN n, .ref ro] ∧ PoolAt H p l ∧ n ≤ 60 ∧
  H ro = some (.lst (ts.map V.ref)) ∧ ro ∉ [p, l] ∧ PairsAt K H ts prs ∧ prs.length < 64 ∧
  ∀ (q : Addr) (ws : List Nat) (H' : Hp), ws.Nodup → (∀ a ∈ ws, a < n) → H q = none → H' q = some (.lst (ws.map vN)) → PoolAt H' p l → Kp [p, l] H H' → Q (.ref q) H'
theorem cal_law_map_some_wished (T : Txt mg) (D : Def K mg "_law_map_some_wished" s_law_map_some_wished) (c_law_draw : Cal P w K mg base 2 "_law_draw" sp_law_draw) : Cal P w K mg base 3 "_law_map_some_wished" (sp_law_map_some_wished K) := by
  refine cal_of D sc_law_map_some_wished (fun _ _ _ _ _ _ us hl => match us, hl with | [_, _, _], _ => rfl) (fun vs H Q E h => ?_) (fun f cdv A outer s H vs Q E hr h => ?_)
  · obtain ⟨p, l, ro, n, ts, prs, rfl, _⟩ := h
    rfl
  · obtain ⟨p, l, ro, n, ts, prs, rfl, hP, n60, hRo, oR, hPr, fewP, q⟩ := h
    have hU := hr.units
    refine ⟨_, (pss_cons (ps_asg (pe_tup (pa_cons (pe_c c_law_draw hr (by decide) (by rfl) (pa_cons (pv 0) (pa_cons pe_int pa_nil))) (pa_cons (pe_lc (own := [("a", 5)]) rfl sc_law_map_some_wished.nd (pi_range1 (by rfl) T.range (pa_cons (pv 1) pa_nil)) (blkOk_by (N := ["pool", "places", "roads", "way", "last", "a", "road"]) (sc := L2.defScope s_law_map_some_wished) (by decide +kernel)) (fun _ _ _ _ _ => (pg_name (i := 5) sc_law_map_some_wished.nd rfl (Or.inr rfl))) (fun _ _ _ _ _ => pts_one (pt_cmpR (show OpR _ _ (rEqD K) from op_eqD hU) (pe_lc (own := [("road", 6)]) rfl sc_law_map_some_wished.nd (show PI _ _ _ (iList K _) from pi_list (pv 2)) (blkIn (N := ["pool", "places", "roads", "way", "last", "a", "road"]) (sc := L2.defScope s_law_map_some_wished) rfl (by decide +kernel)) (fun _ _ _ _ _ => (pg_name (i := 6) sc_law_map_some_wished.nd rfl (Or.inl rfl))) (fun _ _ _ _ _ => pts_one (pt_cmpR op_eq (pe_ix (show IxR _ (rIxT K) from ix_tup) (pv 6) pe_int (fun _ _ => rfl)) (pv 5) (nomark _))) (fun _ _ _ _ _ => (pv 6))) (pe_lst pa_nil) (nomark _))) (fun _ _ _ _ _ => (pv 5))) pa_nil))) (show PG _ _ (gTup K 2 _) from pg_tup (by rfl) (pgs_cons (pg_name (i := 3) sc_law_map_some_wished.nd rfl (Or.inr rfl)) (pgs_cons (pg_name (i := 4) sc_law_map_some_wished.nd rfl (Or.inr rfl)) pgs_nil))))
      (pss_cons (ps_if (pt_cmpR op_lt (pv 3) pe_int (nomark _)) (pss_one (ps_ret (pe_op op_cat (pv 4) (pe_lc (own := [("a", 5)]) rfl sc_law_map_some_wished.nd (pi_range1 (by rfl) T.range (pa_cons (pv 1) pa_nil)) (blkOk_by (N := ["pool", "places", "roads", "way", "last", "a", "road"]) (sc := L2.defScope s_law_map_some_wished) (by decide +kernel)) (fun _ _ _ _ _ => (pg_name (i := 5) sc_law_map_some_wished.nd rfl (Or.inl rfl))) (fun _ _ _ _ _ => pts_one (PW.pt (pw_and (pt_cmpR (show OpR _ _ (rIn K true) from op_notIn_seq) (pv 5) (pv 4) (by rfl)) (pw_and (pt_cmpR op_gt (pv 3) pe_int (nomark _)) (pw_and1 (pt_cmpR op_eq (pe_c c_law_draw hr (by decide) (by rfl) (pa_cons (pv 0) (pa_cons pe_int pa_nil))) pe_int (nomark _))))))) (fun _ _ _ _ _ => (pv 5)))))) pss_nil)
      (pss_cons (ps_if (pt_cmpR op_lt (pv 3) pe_int (nomark _)) (pss_one (ps_ret (pe_lc (own := [("a", 5)]) rfl sc_law_map_some_wished.nd (pi_range1 (by rfl) T.range (pa_cons (pv 1) pa_nil)) (blkOk_by (N := ["pool", "places", "roads", "way", "last", "a", "road"]) (sc := L2.defScope s_law_map_some_wished) (by decide +kernel)) (fun _ _ _ _ _ => (pg_name (i := 5) sc_law_map_some_wished.nd rfl (Or.inl rfl))) (fun _ _ _ _ _ => pts_one (pt_cmpR op_eq (pe_c c_law_draw hr (by decide) (by rfl) (pa_cons (pv 0) (pa_cons (pe_op op_sub (pv 3) pe_int) pa_nil))) pe_int (nomark _))) (fun _ _ _ _ _ => (pv 5))))) pss_nil)
      (pss_one (ps_ret (pe_ifExp (pt_cmpR op_gt (pe_c c_law_draw hr (by decide) (by rfl) (pa_cons (pv 0) (pa_cons pe_int pa_nil))) pe_int (nomark _)) (pe_lst pa_nil) (pe_listRg rfl (by rfl) T.list (prg_1 (by rfl) T.range (pv 1))))))))), ?_⟩
    refine ⟨_, rfl, p, l, 8, rfl, hP, by decide, by decide, fun way H1 hway hP1 k1 => ?_⟩
    have hRo1 := k1 _ _ oR hRo
    have hPr1 : PairsAt K H1 ts prs := hPr.keep k1 hP.lists
    refine ⟨_, rfl, _, rfl, by omega, by omega, fun d hd => ?_⟩
    have keep : ∀ {H' : Hp}, Kp [d] H1 H' → Same H1 H' := fun {H'} k b o e => k b o (fun m => by rw [List.mem_singleton.mp m, hd] at e; cases e) e
    refine lc_range (lo := 0) (n := n) (fun i H' => ∃ F : List Nat, Kp [d] H1 H' ∧ H' d = some (.lst (F.map vN)) ∧ Upto F i)
      ⟨[], (fun b o x e => by rw [upd_ne (ne_of_none e hd)]; exact e), upd_same, Upto.nil 0⟩ ?_ ?_
    · rintro i H2 hi ⟨F, k2, hD, hF⟩
      have e0 : (0 : Int) + (i : Nat) = (i : Nat) := by omega
      refine ⟨rfl, ?_⟩
      rw [e0]
      refine ⟨_, rfl, ro, rfl, ⟨_, .inl (.inl (keep k2 _ _ hRo1))⟩, fun e he => ?_⟩
      have keep2 : ∀ {H' : Hp}, Kp [e] H2 H' → Same H2 H' := fun {H'} k b o e' => k b o (fun m => by rw [List.mem_singleton.mp m, he] at e'; cases e') e'
      refine lc_list (K := K) (xs := ts.map V.ref) (fun j H' => ∃ L : List (Addr × (Nat × Nat)), Kp [e] H2 H' ∧ H' e = some (.lst (L.map fun r => V.ref r.1)) ∧ L.length ≤ j ∧ ∀ r ∈ L, SqT K H2 r.1 [vN r.2.1, vN r.2.2])
        ⟨[], (fun b o x e' => by rw [upd_ne (ne_of_none e' he)]; exact e'), upd_same, Nat.le_refl _, fun _ h => nomatch h⟩ (fun j H' _ ⟨_, k, _⟩ => .inl (.inl (keep2 k _ _ (keep k2 _ _ hRo1)))) ?_ ?_
      · rintro j x H3 hx ⟨L, k3, hE, fl, all⟩
        obtain ⟨t, ht, rfl⟩ := get_map hx
        obtain ⟨q0, hq0, pt⟩ := paired_getL hPr1 ht
        have jl : j < prs.length := (List.getElem?_eq_some_iff.mp hq0).1
        have pt2 := Same.sqT (keep k2) pt
        have pt3 := Same.sqT (keep2 k3) pt2
        refine ⟨rfl, ?_⟩
        refine ⟨_, rfl, t, _, _, _, rfl, rfl, pt3, rfl, _, rfl, rfl, _, rfl, ite_any (fun _ => ?_) (fun _ => ?_)⟩
        · refine ⟨_, rfl, _, hE, by rw [List.length_map]; exact small1000 (by omega), L ++ [(t, q0)], ?_, by rw [upd_same, List.map_append]; rfl, by rw [List.length_append]; exact Nat.succ_le_succ fl, ?_⟩
          · intro b o nb eb
            rw [upd_ne (fun z => nb (by rw [z]; simp))]
            exact k3 b o nb eb
          · intro r hr'
            rcases List.mem_append.mp hr' with hr' | hr'
            · exact all r hr'
            · rw [List.mem_singleton.mp hr']
              exact pt2
        · exact ⟨L, k3, hE, by omega, all⟩
      · rintro H3 ⟨L, k3, hE, fl, all⟩
        refine ⟨Nat.zero_le _, fun g hg => ?_⟩
        have s4 : Same H3 (upd H3 g (.lst [])) := same_upd hg
        have hD3 := keep2 k3 _ _ hD
        have kd : Kp [d] H1 (upd H3 g (.lst [])) := fun b o nb eb => s4 _ _ (keep2 k3 _ _ (k2 b o nb eb))
        refine ⟨.list (L.map fun r => encP r.2), .list [], .lst (.inl (.inl (s4 _ _ hE))) (dpAll_pairs L fun r hr' => Same.sqT ((keep2 k3).trans s4) (all r hr')), .lst (.inl (.inl upd_same)) .nil, by have z := pairs_shaped (L.map (·.2)); rw [List.map_map] at z; exact z, rfl, _, rfl, ite_any (fun _ => ?_) (fun _ => ?_)⟩
        · refine ⟨_, rfl, _, s4 _ _ hD3, by rw [List.length_map]; exact small1000 (by have := hF.len; omega), F ++ [i], ?_, by rw [upd_same, List.map_append]; rfl, hF.more⟩
          intro b o nb eb
          rw [upd_ne (fun z => nb (by rw [z]; simp))]
          exact kd b o nb eb
        · exact ⟨F, kd, s4 _ _ hD3, hF.wider⟩
    rintro H2 ⟨F, k2, hD, hF⟩
    refine ⟨by show 2 ≤ sizeLine; decide, fun tp htp => ?_⟩
    have hD' : (upd H2 tp (.tup [vN way, .ref d])) d = some (.lst (F.map vN)) := (same_upd htp) _ _ hD
    refine ⟨tp, _, rfl, .inl (.inl upd_same), rfl, _, _, rfl, _, _, rfl, rfl, ?_⟩
    have s3 : Same H1 (upd H2 tp (.tup [vN way, .ref d])) := (keep k2).trans (same_upd htp)
    generalize upd H2 tp (.tup [vN way, .ref d]) = H3 at s3 hD'
    have hP3 := hP1.same s3
    have k3 : Kp [p, l] H H3 := k1.trans (Same.kp s3)
    have dpl : d ∉ [p, l] := hP1.free hd
    have hd0 : H d = none := kp_free k1 dpl hd
    refine ⟨_, rfl, _, _, rfl, rfl, _, rfl, ite_any (fun _ => ?_) (fun hw4 => ?_)⟩
    · refine ⟨_, rfl, _, rfl, _, rfl, by omega, by omega, fun e he => ?_⟩
      have hde : d ≠ e := ne_of_none hD' he
      have epl : e ∉ [p, l] := hP3.free he
      refine lc_range (lo := 0) (n := n) (fun i H' => ∃ G : List Nat, Kp [p, l, e] H3 H' ∧ H' e = some (.lst (G.map vN)) ∧ PoolAt H' p l ∧ Upto G i ∧ ∀ x ∈ G, x ∉ F)
        ⟨[], (fun b o x e' => by rw [upd_ne (ne_of_none e' he)]; exact e'), upd_same, hP3.same (same_upd he), Upto.nil 0, fun _ h => nomatch h⟩ ?_ ?_
      · rintro i H4 hi ⟨G, k4, hE, hP4, hG, off⟩
        have e0 : (0 : Int) + (i : Nat) = (i : Nat) := by omega
        have hD4 : H4 d = some (.lst (F.map vN)) := k4 _ _ (by simp only [List.mem_cons, List.not_mem_nil, or_false] at dpl ⊢; simp [dpl, hde]) hD'
        refine ⟨rfl, ?_⟩
        rw [e0]
        refine ⟨_, rfl, _, rfl, d, _, rfl, .inl (.inl (.inl hD4)), rfl, all_vN F, _, rfl, ite_any (fun hn => ?_) (fun _ => ?_)⟩
        · have hn' : i ∉ F := by
            have hn2 : (!inV (vN i) (F.map vN)) = true := hn
            rw [in_vN] at hn2
            simpa using hn2
          refine ⟨_, rfl, _, _, rfl, rfl, _, rfl, ite_any (fun _ => ?_) (fun _ => ?_)⟩
          · refine ⟨_, rfl, p, l, 6, rfl, hP4, by decide, by decide, fun r H5 hr5 hP5 k5 => ?_⟩
            have k45 : Kp [p, l, e] H3 H5 := fun b o nb eb => k5 _ _ (fun m => nb (by simp only [List.mem_cons, List.not_mem_nil, or_false] at m ⊢; rcases m with m | m <;> simp [m])) (k4 b o nb eb)
            have hE5 := k5 _ _ epl hE
            refine ⟨rfl, _, rfl, ite_any (fun _ => ?_) (fun _ => ?_)⟩
            · refine ⟨_, rfl, _, hE5, by rw [List.length_map]; exact small1000 (by have := hG.len; omega), G ++ [i], ?_, by rw [upd_same, List.map_append]; rfl, ?_, hG.more, ?_⟩
              · intro b o nb eb
                rw [upd_ne (fun z => nb (by rw [z]; simp))]
                exact k45 b o nb eb
              · exact hP5.set epl
              · intro x hx
                rcases List.mem_append.mp hx with hx | hx
                · exact off x hx
                · rw [List.mem_singleton.mp hx]
                  exact hn'
            · exact ⟨G, k45, hE5, hP5, hG.wider, off⟩
          · exact ⟨G, k4, hE, hP4, hG.wider, off⟩
        · exact ⟨G, k4, hE, hP4, hG.wider, off⟩
      · rintro H4 ⟨G, k4, hE, hP4, hG, off⟩
        have hD4 : H4 d = some (.lst (F.map vN)) := k4 _ _ (by simp only [List.mem_cons, List.not_mem_nil, or_false] at dpl ⊢; simp [dpl, hde]) hD'
        refine ⟨d, e, _, _, rfl, rfl, hD4, hE, ?_, fun z hz => ?_⟩
        · rw [List.length_map, List.length_map]
          have h1 := hF.len
          have h2 := hG.len
          show F.length + G.length ≤ sizeLine
          have h3 : (1000 : Nat) ≤ sizeLine := by decide
          omega
        · have s5 : Same H4 (upd H4 z (.lst (F.map vN ++ G.map vN))) := same_upd hz
          have k34 : Kp [p, l] H H4 := kp_made k3 he k4
          refine q z (F ++ G) _ ?_ ?_ (kp_free k34 (hP4.free hz) hz) (by rw [upd_same, List.map_append]) (hP4.same s5) (k34.trans (Same.kp s5))
          · rw [List.nodup_append]
            exact ⟨up_nodup hF.up, up_nodup hG.up, fun x hx y hy z => off y hy (z ▸ hx)⟩
          · intro x hx
            rcases List.mem_append.mp hx with hx | hx
            · exact hF.lt x hx
            · exact hG.lt x hx
    · have hw4' := of_decide_eq_false hw4
      refine ⟨_, rfl, _, _, rfl, rfl, _, rfl, ite_any (fun hw => ?_) (fun _ => ?_)⟩
      · refine ⟨_, rfl, _, rfl, by omega, by omega, fun e he => ?_⟩
        have epl : e ∉ [p, l] := hP3.free he
        refine lc_range (lo := 0) (n := n) (fun i H' => ∃ G : List Nat, Kp [p, l, e] H3 H' ∧ H' e = some (.lst (G.map vN)) ∧ PoolAt H' p l ∧ Upto G i)
          ⟨[], (fun b o x e' => by rw [upd_ne (ne_of_none e' he)]; exact e'), upd_same, hP3.same (same_upd he), Upto.nil 0⟩ ?_ ?_
        · rintro i H4 hi ⟨G, k4, hE, hP4, hG⟩
          have e0 : (0 : Int) + (i : Nat) = (i : Nat) := by omega
          refine ⟨rfl, ?_⟩
          rw [e0]
          refine ⟨_, rfl, _, rfl, _, _, rfl, rfl, p, l, way - 2, ?_, hP4, by omega, by omega, fun r H5 hr5 hP5 k5 => ?_⟩
          · have : ((way : Nat) : Int) - 2 = ((way - 2 : Nat) : Int) := by omega
            show [V.ref p, V.int ((way : Nat) - 2)] = [V.ref p, V.int ((way - 2 : Nat) : Int)]
            rw [this]
          have k45 : Kp [p, l, e] H3 H5 := fun b o nb eb => k5 _ _ (fun m => nb (by simp only [List.mem_cons, List.not_mem_nil, or_false] at m ⊢; rcases m with m | m <;> simp [m])) (k4 b o nb eb)
          have hE5 := k5 _ _ epl hE
          refine ⟨rfl, _, rfl, ite_any (fun _ => ?_) (fun _ => ?_)⟩
          · refine ⟨_, rfl, _, hE5, by rw [List.length_map]; exact small1000 (by have := hG.len; omega), G ++ [i], ?_, by rw [upd_same, List.map_append]; rfl, hP5.set epl, hG.more⟩
            intro b o nb eb
            rw [upd_ne (fun z => nb (by rw [z]; simp))]
            exact k45 b o nb eb
          · exact ⟨G, k45, hE5, hP5, hG.wider⟩
        · rintro H4 ⟨G, k4, hE, hP4, hG⟩
          have k34 : Kp [p, l] H H4 := kp_made k3 he k4
          exact q e G _ (up_nodup hG.up) hG.lt (kp_free k3 epl he) hE hP4 k34
      · refine ⟨_, rfl, p, l, 3, rfl, hP3, by decide, by decide, fun r H4 hr4 hP4 k4 => ?_⟩
        refine ⟨_, _, rfl, rfl, _, rfl, ite_any (fun _ => ?_) (fun _ => ?_)⟩
        · refine ⟨Nat.zero_le _, fun e he => ?_⟩
          have epl : e ∉ [p, l] := hP4.free he
          exact q e [] _ .nil (fun _ h => nomatch h) (kp_free (k3.trans k4) epl he) upd_same (hP4.set epl) ((k3.trans k4).trans (Same.kp (same_upd he)))
        · refine ⟨_, rfl, _, rfl, .of_le (by omega) (by omega) (by omega) (by omega), fun e he => ?_⟩
          have epl : e ∉ [p, l] := hP4.free he
          exact q e (List.range n) _ (up_nodup (range_up n)) (fun _ h => List.mem_range.mp h) (kp_free (k3.trans k4) epl he) (by rw [upd_same, rgV_nat]) (hP4.set epl) ((k3.trans k4).trans (Same.kp (same_upd he)))
end
end Ft

set_option Elab.async false
set_option linter.all false
set_option maxRecDepth 100000
set_option maxHeartbeats 8000000
namespace Ft
open PySem PySem.Spec PyProof.Rows L2
/-- pairs as fresh tuples -/
def TupsAt (H : Hp) (L : List (Addr × (Nat × Nat))) : Prop := ∀ r ∈ L, H r.1 = some (.tup [vN r.2.1, vN r.2.2])
theorem TupsAt.keep {ex : List Addr} {H H' : Hp} (k : Kp ex H H') (l : Lists ex H) {L : List (Addr × (Nat × Nat))} (h : TupsAt H L) : TupsAt H' L := fun r hr => by
  refine k _ _ (fun m => ?_) (h r hr)
  obtain ⟨o, e, n, _⟩ := l _ m
  rw [h r hr] at e
  exact n _ (Option.some.inj e).symm
theorem TupsAt.same {H H' : Hp} (k : Same H H') {L : List (Addr × (Nat × Nat))} (h : TupsAt H L) : TupsAt H' L := fun r hr => k _ _ (h r hr)
theorem TupsAt.set {H : Hp} {d : Addr} {xs : List V} {o : HO} (hd : H d = some (.lst xs)) {L : List (Addr × (Nat × Nat))} (h : TupsAt H L) : TupsAt (upd H d o) L := fun r hr => by
  have := h r hr
  rw [upd_ne (fun z => by rw [z, hd] at this; cases this)]
  exact this
theorem TupsAt.add {H : Hp} {t : Addr} {p : Nat × Nat} {L : List (Addr × (Nat × Nat))} (h : TupsAt H L) (ht : H t = some (.tup [vN p.1, vN p.2])) : TupsAt H (L ++ [(t, p)]) := fun r hr => by
  rcases List.mem_append.mp hr with hr | hr
  · exact h r hr
  · rw [List.mem_singleton.mp hr]
    exact ht
theorem TupsAt.pairs {K : PySem.W.Frag} {H : Hp} : ∀ {L : List (Addr × (Nat × Nat))}, TupsAt H L → PairsAt K H (L.map (·.1)) (L.map (·.2))
  | [], _ => .nil
  | r :: L, h => .cons (.inl (.inl (h r List.mem_cons_self))) (TupsAt.pairs fun q hq => h q (List.mem_cons_of_mem _ hq))
theorem TupsAt.not {H : Hp} {d : Addr} {xs : List V} (hd : H d = some (.lst xs)) {L : List (Addr × (Nat × Nat))} (h : TupsAt H L) : ∀ r ∈ L, r.1 ≠ d := fun r hr z => by
  have := h r hr
  rw [z, hd] at this
  cases this
theorem floor_nat (i z : Nat) : (i : Int) / (1 + (z : Int)) * (1 + (z : Int)) = ((i / (1 + z) * (1 + z) : Nat) : Int) := by
  push_cast
  rfl
section
variable {P : Program} {w : World} {K : PySem.W.Frag} {mg : Str → Option Value} {base : Heap} {t1 t2 : Tok}
/-! ### _law_map_drawn -/
def sp_law_map_drawn (K : PySem.W.Frag) : Sp := fun vs H Q _ => ∃ (p l : Addr) (most : Nat), vs = [.ref p, vN most] ∧ PoolAt H p l ∧ most ≤ 20 ∧ ∀ (c : Addr) (C : Chart) (H' : Hp), IsChart K H' c C → C.Ok → C.n ≤ most → PoolAt H' p l → Kp [p, l] H H' → Q (.ref c) H'
theorem cal_law_map_drawn (T : Txt mg) (D : Def K mg "_law_map_drawn" s_law_map_drawn) (c_law_draw : Cal P w K mg base 2 "_law_draw" sp_law_draw) (c_law_map_named : Cal P w K mg base 4 "_law_map_named" (sp_law_map_named K))
    (c_law_map_some_wished : Cal P w K mg base 3 "_law_map_some_wished" (sp_law_map_some_wished K)) : Cal P w K mg base 5 "_law_map_drawn" (sp_law_map_drawn K) := by
  refine cal_of D sc_law_map_drawn (fun _ _ _ _ _ _ us hl => match us, hl with | [_, _], _ => rfl) (fun vs H Q E h => ?_) (fun f cdv A outer s H vs Q E hr h => ?_)
  · obtain ⟨p, l, most, rfl, _⟩ := h
    rfl
  · obtain ⟨p, l, most, rfl, hP, m20, q⟩ := h
    have hU := hr.units
    refine ⟨_, (pss_cons (ps_set (i := 2) sc_law_map_drawn.nd rfl (Or.inr rfl) (pe_c c_law_draw hr (by decide) (by rfl) (pa_cons (pv 0) (pa_cons (pe_op op_add (pv 1) pe_int) pa_nil))))
      (pss_cons (ps_if (pt_cmpR op_eq (pv 2) pe_int (nomark _)) (pss_one (ps_ret (pe_tup (pa_cons pe_int (pa_cons (pe_tup pa_nil) (pa_cons (pe_tup pa_nil) pa_nil)))))) pss_nil)
      (pss_cons (ps_par (i := 3) (j := 4) (by rfl) sc_law_map_drawn.nd rfl rfl (by decide) rfl rfl (pa_cons (pe_c c_law_draw hr (by decide) (by rfl) (pa_cons (pv 0) (pa_cons pe_int pa_nil))) (pa_cons (pe_lst pa_nil) pa_nil)) (by rfl))
      (pss_cons (ps_for PassesOwn.never rfl (pi_range1 (by rfl) T.range (pa_cons (pe_c c_law_draw hr (by decide) (by rfl) (pa_cons (pv 0) (pa_cons (pe_op op_add (pe_op op_mul pe_int (pv 2)) pe_int) pa_nil))) pa_nil)) (pg_name (i := 5) sc_law_map_drawn.nd rfl (Or.inl rfl)) (pss_cons (ps_par (i := 6) (j := 7) (by rfl) sc_law_map_drawn.nd rfl rfl (by decide) rfl rfl (pa_cons (pe_c c_law_draw hr (by decide) (by rfl) (pa_cons (pv 0) (pa_cons (pv 2) pa_nil))) (pa_cons (pe_c c_law_draw hr (by decide) (by rfl) (pa_cons (pv 0) (pa_cons (pv 2) pa_nil))) pa_nil)) (by rfl))
        (pss_cons (ps_set (i := 8) sc_law_map_drawn.nd rfl (Or.inl rfl) (pe_mid (pe_or (pe_cmpR op_eq (pv 3) pe_int (nomark _)) (pe_one (pe_and (pe_cmpR op_gt (pv 3) pe_int (nomark _)) (pe_one (pe_cmpR op_gt (pe_c c_law_draw hr (by decide) (by rfl) (pa_cons (pv 0) (pa_cons pe_int pa_nil))) pe_int (nomark _))))))))
        (pss_one (ps_expr (pe_bm PySem.F.plainAttrs_list PySem.F.slot_list_append PySem.F.type_list_append mt_append (pv 4) (pa_cons (pe_mid (pe_ifExp (pt_truth (pv 8) (by intro _; rfl)) (pe_tup (pa_cons (pe_callB (call_min2 rfl) (by rfl) T.min (by decide +kernel) (pa_cons (pv 6) (pa_cons (pv 7) pa_nil))) (pa_cons (pe_callB (call_max2 rfl) (by rfl) T.max (by decide +kernel) (pa_cons (pv 6) (pa_cons (pv 7) pa_nil))) pa_nil))) (pe_tup (pa_cons (pv 6) (pa_cons (pv 7) pa_nil))))) pa_nil)))))))
      (ps_cut (ps_if (pt_cmpR op_eq (pv 3) pe_int (nomark _)) (pss_cons (ps_set (i := 9) sc_law_map_drawn.nd rfl (Or.inr rfl) (pe_op op_add pe_int (pe_c c_law_draw hr (by decide) (by rfl) (pa_cons (pv 0) (pa_cons pe_int pa_nil)))))
        (pss_one (ps_set (i := 4) sc_law_map_drawn.nd rfl (Or.inl rfl) (pe_op op_cat (pv 4) (pe_lc (own := [("a", 6)]) rfl sc_law_map_drawn.nd (pi_range1 (by rfl) T.range (pa_cons (pe_op op_sub (pv 2) pe_int) pa_nil)) (blkOk_by (N := ["pool", "most", "places", "way", "roads", "turn", "a", "b", "ahead", "size"]) (sc := L2.defScope s_law_map_drawn) (by decide +kernel)) (fun _ _ _ _ _ => (pg_name (i := 6) sc_law_map_drawn.nd rfl (Or.inl rfl))) (fun _ _ _ _ _ => pts_nil) (fun _ _ _ _ _ => (pe_tup (pa_cons (pv 6) (pa_cons (pe_mid (pe_ifExp (PW.pt (pw_and (pt_cmpR op_gt (pe_op op_mod (pe_callTy call_int1 (by rfl) T.int (by decide +kernel) (pa_cons (pe_op op_add (pv 6) pe_int) pa_nil)) (pv 9)) pe_int (nomark _)) (pw_and1 (pt_cmpR op_lt (pe_op op_add (pv 6) pe_int) (pv 2) (nomark _))))) (pe_op op_add (pv 6) pe_int) (pe_op op_mul (pe_op op_fdiv (pv 6) (pv 9)) (pv 9)))) pa_nil))))))))) pss_nil)
      (pss_one (ps_ret (pe_ix (show IxR _ (rIxL K) from ix_list) (pe_c c_law_map_named hr (by decide) (by rfl) (pa_cons (pv 0) (pa_cons (pv 2) (pa_cons (pv 4) (pa_cons (pe_c c_law_map_some_wished hr (by decide) (by rfl) (pa_cons (pv 0) (pa_cons (pv 2) (pa_cons (pv 4) pa_nil)))) pa_nil))))) pe_int (fun _ _ => rfl))))))))), ?_⟩
    refine ⟨_, rfl, _, rfl, _, _, rfl, rfl, p, l, most + 1, rfl, hP, by omega, by omega, fun n H1 hn hP1 k1 => ?_⟩
    refine ⟨_, rfl, rfl, _, rfl, ite_any (fun h0 => ?_) (fun h0 => ?_)⟩
    · have hn0 : n = 0 := by
        have := of_decide_eq_true h0
        unfold vN at this
        have := V.int.inj this
        omega
      refine ⟨Nat.zero_le _, fun r1 h1 => ?_⟩
      have s1 : Same H1 (upd H1 r1 (.tup [])) := same_upd h1
      have hT1 : (upd H1 r1 (.tup [])) r1 = some (.tup []) := upd_same
      generalize upd H1 r1 (.tup []) = H2 at s1 hT1
      refine ⟨Nat.zero_le _, fun r2 h2 => ?_⟩
      have s2 : Same H2 (upd H2 r2 (.tup [])) := same_upd h2
      have hT2 : (upd H2 r2 (.tup [])) r2 = some (.tup []) := upd_same
      generalize upd H2 r2 (.tup []) = H3 at s2 hT2
      refine ⟨by show 3 ≤ sizeLine; decide, fun c hc => ?_⟩
      have s3 : Same H3 (upd H3 c (.tup [.int 0, .ref r1, .ref r2])) := same_upd hc
      have s13 := (s1.trans s2).trans s3
      refine q c ⟨0, [], []⟩ _ ⟨r1, r2, [], .inl (.inl upd_same), .inl (.inl (s3 _ _ (s2 _ _ hT1))), .nil, .inl (.inl (s3 _ _ hT2))⟩ ⟨by decide, by decide, (fun _ h => nomatch h), .nil, (fun _ h => nomatch h), .nil⟩ (Nat.zero_le _) (hP1.same s13) (k1.trans (Same.kp s13))
    have hn0 : 0 < n := by
      have := of_decide_eq_false h0
      unfold vN at this
      rcases Nat.eq_zero_or_pos n with e | e
      · exact absurd (by rw [e]; rfl) this
      · exact e
    refine ⟨_, rfl, p, l, 4, rfl, hP1, by decide, by decide, fun way H2 hway hP2 k2 => ?_⟩
    refine ⟨Nat.zero_le _, fun d hd => ?_⟩
    have s3 : Same H2 (upd H2 d (.lst [])) := same_upd hd
    have hD3 : (upd H2 d (.lst [])) d = some (.lst []) := upd_same
    have dpl : d ∉ [p, l] := hP2.free hd
    have hP3 := hP2.same s3
    have k3 : Kp [p, l] H (upd H2 d (.lst [])) := (k1.trans k2).trans (Same.kp s3)
    have hd0 : H d = none := kp_free (k1.trans k2) dpl hd
    generalize upd H2 d (.lst []) = H3 at s3 hD3 hP3 k3
    refine ⟨_, _, rfl, ?_⟩
    refine ⟨_, rfl, _, rfl, _, _, rfl, rfl, .inl ⟨by decide, by decide⟩, _, _, rfl, rfl, p, l, 2 * n + 2, rfl, hP3, by omega, by omega, fun m H4 hm hP4 k4 => ?_⟩
    have hD4 := k4 _ _ dpl hD3
    have kset : ∀ {H' : Hp} {o : HO}, Kp [p, l] H H' → Kp [p, l] H (upd H' d o) := fun {H' o} k b x nb e => by
      rw [upd_ne (ne_of_none e hd0)]
      exact k b x nb e
    refine ⟨_, rfl, by omega, by omega, for_range (lo := 0) (n := m) (fun i σ H' => ∃ (L : List (Addr × (Nat × Nat))) (v5 v6 v7 v8 : Option V), σ = [some (.ref p), some (vN most), some (vN n), some (vN way), some (.ref d), v5, v6, v7, v8, none] ∧ PoolAt H' p l ∧ Kp [p, l] H H' ∧ H' d = some (.lst (L.map fun r => V.ref r.1)) ∧ TupsAt H' L ∧ (∀ r ∈ L, r.2.1 < n ∧ r.2.2 < n) ∧ L.length = i)
      ⟨[], _, _, _, _, rfl, hP4, k3.trans k4, hD4, (fun _ h => nomatch h), (fun _ h => nomatch h), rfl⟩ ?_ ?_⟩
    · rintro i σ H5 hi ⟨L, v5, v6, v7, v8, rfl, hP5, k5, hD5, hL5, inL, eL⟩
      refine ⟨_, rfl, _, rfl, p, l, n, rfl, hP5, by omega, by omega, fun a H6 ha hP6 k6 => ?_⟩
      refine ⟨_, rfl, _, rfl, p, l, n, rfl, hP6, by omega, by omega, fun b H7 hb hP7 k7 => ?_⟩
      refine ⟨_, _, rfl, ?_⟩
      have k67 := k6.trans k7
      have hD7 := k67 _ _ dpl hD5
      have hL7 : TupsAt H7 L := hL5.keep k67 hP5.lists
      refine ⟨fun v H' => ∃ c : Bool, v = .bl c ∧ PoolAt H' p l ∧ Kp [p, l] H7 H', ⟨_, rfl, rfl, _, rfl, ite_any (fun _ => ⟨_, rfl, hP7, Kp.refl _ _⟩) (fun _ => ⟨_, rfl, _, _, rfl, rfl, _, rfl, ite_any (fun _ => ?_) (fun _ => ⟨_, rfl, hP7, Kp.refl _ _⟩)⟩)⟩, ?_⟩
      · exact ⟨_, rfl, p, l, 5, rfl, hP7, by decide, by decide, fun r H8 hr8 hP8 k8 => ⟨_, _, rfl, rfl, _, rfl, hP8, k8⟩⟩
      rintro v H8 ⟨c, rfl, hP8, k8⟩
      have hD8 := k8 _ _ dpl hD7
      have hL8 : TupsAt H8 L := hL7.keep k8 hP7.lists
      refine ⟨_, rfl, .inl ⟨rfl, _, .inl (.inl hD8)⟩, ?_⟩
      refine ⟨fun v H' => ∃ (t : Addr) (x y : Nat), v = .ref t ∧ H8 t = none ∧ H' = upd H8 t (.tup [vN x, vN y]) ∧ x < n ∧ y < n, ⟨_, rfl, _, rfl, ite_any (fun _ => ?_) (fun _ => ?_)⟩, ?_⟩
      · refine ⟨_, rfl, _, rfl, _, _, rfl, _, rfl, _, rfl, _, _, rfl, by show 2 ≤ sizeLine; decide, fun t ht => ?_⟩
        have e1 : V.int (if (b : Int) < (a : Int) then (b : Int) else (a : Int)) = vN (if b < a then b else a) := by
          by_cases h : b < a
          · rw [if_pos h, if_pos (by omega)]
            rfl
          · rw [if_neg h, if_neg (by omega)]
            rfl
        have e2 : V.int (if (a : Int) < (b : Int) then (b : Int) else (a : Int)) = vN (if a < b then b else a) := by
          by_cases h : a < b
          · rw [if_pos h, if_pos (by omega)]
            rfl
          · rw [if_neg h, if_neg (by omega)]
            rfl
        refine ⟨t, (if b < a then b else a), (if a < b then b else a), rfl, ht, by rw [← e1, ← e2], ?_, ?_⟩
        · by_cases h : b < a
          · rw [if_pos h]; exact hb
          · rw [if_neg h]; exact ha
        · by_cases h : a < b
          · rw [if_pos h]; exact hb
          · rw [if_neg h]; exact ha
      · exact ⟨_, rfl, _, rfl, by show 2 ≤ sizeLine; decide, fun t ht => ⟨t, a, b, rfl, ht, rfl, ha, hb⟩⟩
      rintro v H9 ⟨t, x, y, rfl, ht, rfl, hx, hy⟩
      have s9 : Same H8 (upd H8 t (.tup [vN x, vN y])) := same_upd ht
      have hT9 : (upd H8 t (.tup [vN x, vN y])) t = some (.tup [vN x, vN y]) := upd_same
      have hD9 := s9 _ _ hD8
      refine ⟨d, _, _, rfl, rfl, hD9, by rw [List.length_map]; exact small1000 (by omega), L ++ [(t, (x, y))], _, _, _, _, rfl, (hP8.same s9).set dpl, kset ((k5.trans (k67.trans k8)).trans (Same.kp s9)), by rw [upd_same, List.map_append]; rfl, ((hL8.same s9).add hT9).set hD9, ?_, by rw [List.length_append, eL]; rfl⟩
      intro r hr'
      rcases List.mem_append.mp hr' with hr' | hr'
      · exact inL r hr'
      · rw [List.mem_singleton.mp hr']
        exact ⟨hx, hy⟩
    rintro σ H5 ⟨L, v5, v6, v7, v8, rfl, hP5, k5, hD5, hL5, inL, eL⟩
    refine ⟨fun σ' H' => ∃ (ro : Addr) (L' : List (Addr × (Nat × Nat))) (v5 v6 v7 v8 v9 : Option V), σ' = [some (.ref p), some (vN most), some (vN n), some (vN way), some (.ref ro), v5, v6, v7, v8, v9] ∧ PoolAt H' p l ∧ Kp [p, l] H H' ∧ ro ∉ [p, l] ∧ H' ro = some (.lst (L'.map fun r => V.ref r.1)) ∧ TupsAt H' L' ∧ (∀ r ∈ L', r.2.1 < n ∧ r.2.2 < n) ∧ L'.length < 64, ?_, ?_⟩
    · refine ⟨_, rfl, rfl, _, rfl, ite_any (fun _ => ?_) (fun _ => ?_)⟩
      · refine ⟨_, rfl, p, l, 3, rfl, hP5, by decide, by decide, fun z H6 hz hP6 k6 => ?_⟩
        have hD6 := k6 _ _ dpl hD5
        have hL6 : TupsAt H6 L := hL5.keep k6 hP5.lists
        refine ⟨_, _, rfl, rfl, ?_⟩
        refine ⟨_, rfl, _, rfl, _, _, rfl, rfl, _, rfl, by omega, by omega, fun e he => ?_⟩
        have epl : e ∉ [p, l] := hP6.free he
        have hde : d ≠ e := ne_of_none hD6 he
        refine lc_range (lo := 0) (n := ((n : Int) - 1).toNat) (fun i H' => ∃ M : List (Addr × (Nat × Nat)), Kp [e] H6 H' ∧ H' e = some (.lst (M.map fun r => V.ref r.1)) ∧ TupsAt H' M ∧ (∀ r ∈ M, r.2.1 < n ∧ r.2.2 < n) ∧ M.length ≤ i)
          ⟨[], (fun b o x e' => by rw [upd_ne (ne_of_none e' he)]; exact e'), upd_same, (fun _ h => nomatch h), (fun _ h => nomatch h), Nat.zero_le _⟩ ?_ ?_
        · rintro i H7 hi ⟨M, k7, hE, hM, inM, eM⟩
          have e0 : (0 : Int) + (i : Nat) = (i : Nat) := by omega
          refine ⟨rfl, ?_⟩
          rw [e0]
          refine ⟨_, rfl, fun v H' => ∃ x : Nat, x < n ∧ v = vN x ∧ H' = H7, ?_, ?_⟩
          · have fl : ∃ x : Nat, x < n ∧ V.int ((i : Int) / (1 + (z : Int)) * (1 + (z : Int))) = vN x ∧ H7 = H7 := by
              refine ⟨i / (1 + z) * (1 + z), ?_, congrArg V.int (floor_nat i z), rfl⟩
              have := Nat.div_mul_le_self i (1 + z)
              omega
            have z1 : (0 : Int) < 1 + (z : Int) := by omega
            have z2 : (1 : Int) + (z : Int) < 1073741824 := by omega
            have z3 : -2 ^ 64 < (1 : Int) + (z : Int) := by omega
            have z4 : (1 : Int) + (z : Int) < 2 ^ 64 := by omega
            refine ⟨_, rfl, _, _, rfl, rfl, .inl ⟨_, rfl, _, rfl, _, _, rfl, rfl, z1, _, _, rfl, rfl, _, rfl, ite_any (fun _ => ?_) (fun _ => ?_)⟩⟩
            · refine ⟨_, rfl, _, _, rfl, rfl, _, rfl, _, _, rfl, rfl, _, rfl, ite_any (fun hx => ?_) (fun _ => ?_)⟩
              · have hx' := of_decide_eq_true hx
                exact ⟨_, rfl, _, _, rfl, rfl, i + 1, by omega, rfl, rfl⟩
              · exact ⟨_, rfl, _, rfl, _, _, rfl, rfl, ⟨z1, z2⟩, _, rfl, _, _, rfl, rfl, .inr ⟨z3, z4⟩, fl⟩
            · exact ⟨_, rfl, _, rfl, _, _, rfl, rfl, ⟨z1, z2⟩, _, rfl, _, _, rfl, rfl, .inr ⟨z3, z4⟩, fl⟩
          rintro v H8 ⟨x, hx, rfl, rfl⟩
          refine ⟨by show 2 ≤ sizeLine; decide, fun t ht => ?_⟩
          have s9 : Same H8 (upd H8 t (.tup [vN i, vN x])) := same_upd ht
          have hT9 : (upd H8 t (.tup [vN i, vN x])) t = some (.tup [vN i, vN x]) := upd_same
          have hE9 := s9 _ _ hE
          refine ⟨_, hE9, by rw [List.length_map]; exact small1000 (by omega), M ++ [(t, (i, x))], ?_, by rw [upd_same, List.map_append]; rfl, ((hM.same s9).add hT9).set hE9, ?_, by rw [List.length_append]; exact Nat.succ_le_succ eM⟩
          · intro b o nb eb
            rw [upd_ne (fun z => nb (by rw [z]; simp))]
            exact s9 _ _ (k7 b o nb eb)
          · intro r hr'
            rcases List.mem_append.mp hr' with hr' | hr'
            · exact inM r hr'
            · rw [List.mem_singleton.mp hr']
              exact ⟨by show i < n; omega, hx⟩
        · rintro H7 ⟨M, k7, hE, hM, inM, eM⟩
          have s7 : Same H6 H7 := fun b o eb => k7 b o (fun m => by rw [List.mem_singleton.mp m, he] at eb; cases eb) eb
          have hP7 := hP6.same s7
          refine ⟨d, e, _, _, rfl, rfl, s7 _ _ hD6, hE, ?_, fun ro hro => ?_⟩
          · rw [List.length_map, List.length_map]
            have h3 : (1000 : Nat) ≤ sizeLine := by decide
            omega
          · have s8 : Same H7 (upd H7 ro (.lst ((L.map fun r => V.ref r.1) ++ M.map fun r => V.ref r.1))) := same_upd hro
            refine ⟨ro, L ++ M, _, _, _, _, _, rfl, hP7.same s8, (k5.trans k6).trans (Same.kp (s7.trans s8)), hP7.free hro, by rw [upd_same, List.map_append], ?_, ?_, by rw [List.length_append]; omega⟩
            · intro r hr'
              rcases List.mem_append.mp hr' with hr' | hr'
              · exact (hL6.same (s7.trans s8)) r hr'
              · exact (hM.same s8) r hr'
            · intro r hr'
              rcases List.mem_append.mp hr' with hr' | hr'
              · exact inL r hr'
              · exact inM r hr'
      · exact ⟨d, L, _, _, _, _, _, rfl, hP5, k5, dpl, hD5, hL5, inL, by omega⟩
    · rintro σ' H6 ⟨ro, L', v5, v6, v7, v8, v9, rfl, hP6, k6, rpl, hRo, hL', inL', few⟩
      have ePr : (L'.map fun r => V.ref r.1) = (L'.map (·.1)).map V.ref := by rw [List.map_map]; rfl
      rw [ePr] at hRo
      have len : (L'.map (·.2)).length < 64 := by rw [List.length_map]; exact few
      refine ⟨_, rfl, _, rfl, _, rfl, _, rfl, _, rfl, _, rfl, p, l, ro, n, L'.map (·.1), L'.map (·.2), rfl, hP6, by omega, hRo, rpl, hL'.pairs, len, fun wi ws H7 nd ltw hw0 hW hP7 k7 => ?_⟩
      have hRo7 := k7 _ _ rpl hRo
      refine ⟨p, l, ro, wi, n, L'.map (·.1), L'.map (·.2), ws, rfl, hP7, by omega, hRo7, rpl, hL'.pairs.keep k7 hP6.lists, len, ?_, hW, hP6.free hw0, ?_, ltw, fun q' c na perm C H8 pm _ _ hQ hC _ nmd hP8 k8 => ?_⟩
      · intro r hr'
        obtain ⟨z, hz, rfl⟩ := List.mem_map.mp hr'
        exact inL' z hz
      · have := nodup_lt_len nd ltw
        omega
      · refine ⟨q', _, _, _, rfl, rfl, .inl (.inl hQ), rfl, ?_⟩
        exact q c C H8 hC nmd.ok (by rw [nmd.n]; omega) hP8 ((k6.trans k7).trans k8)
end
end Ft

set_option Elab.async false
set_option linter.all false
set_option maxRecDepth 100000
set_option maxHeartbeats 4000000
namespace Ft
open PySem PySem.Spec PyProof.Rows L2
/-! ### set(xs), xs many ints among few -/
theorem nodup_sub_len {α : Type} [DecidableEq α] : ∀ (l D : List α), l.Nodup → (∀ x ∈ l, x ∈ D) → l.length ≤ D.length
  | [], _, _, _ => Nat.zero_le _
  | x :: l, D, nd, h => by
    obtain ⟨n1, n2⟩ := List.nodup_cons.mp nd
    have hx := h x List.mem_cons_self
    have ih := nodup_sub_len l (D.erase x) n2 fun y hy => (List.mem_erase_of_ne (fun e : y = x => n1 (e ▸ hy))).mpr (h y (List.mem_cons_of_mem _ hy))
    rw [List.length_erase_of_mem hx] at ih
    have := List.length_pos_of_mem hx
    rw [List.length_cons]
    omega
theorem setR_count {w : World} {h : Heap} {a : Addr} {S : Int → Bool} {n : Nat} (R : SetR w h a S n) {D : List Int} (hD : ∀ k, S k = true → k ∈ D) : n ≤ D.length := by
  obtain ⟨o, es, ep, t, _, _, _, _, nd, mem, _, _, e, _⟩ := R
  have := nodup_sub_len _ D nd fun k hk => hD k ((mem k).mpr hk)
  rw [List.length_map, Array.length_toList] at this
  omega
def rSetN (K : PySem.W.Frag) (w : World) : List V → Hp → VK → Prop := fun xs H Q => ∃ (l : Addr) (ns : List Int), xs = [V.ref l] ∧ (SqL K H l (ns.map V.int) ∨ SqT K H l (ns.map V.int)) ∧ ns.length ≤ 1000 ∧
  ∀ (p : Addr) (n : Nat), H p = none → (∀ D : List Int, (∀ k ∈ ns, k ∈ D) → n ≤ D.length) → Q (.ref p) (upd H p (SetO w p (fun j => decide (j ∈ ns)) n))
theorem cr_setN {X : Cx} (hc : X.calm = true) : CallR X (.type "set") (rSetN X.K X.w) := by
  intro pins s σ H xs us Q I r h
  obtain ⟨l, ns, rfl, hl, few, q⟩ := h
  have few1 : ns.length + 1 < scanBound := Nat.lt_of_le_of_lt (Nat.succ_le_succ few) (by decide)
  have free : H s.heap.objs.size = none := I.hok.fresh (Nat.le_refl _)
  rw [Vals.ref1 r]
  rcases hl with hl | hl
  · obtain ⟨its, rv, pl, hz⟩ := I.list hl
    refine set_of_list ns (I.ok.hd hc) pl.isList (by simpa using rv.ints) few1 fun h' tk c hS hc2 hk => ?_
    exact ⟨.ref _, upd H s.heap.objs.size (SetO X.w s.heap.objs.size (fun j => decide (j ∈ ns)) c), I.laid (t' := tk) hk (Nat.le_refl _) (setO_new hS), rfl, q _ _ free fun D hD => setR_count hS fun k hk => hD k (of_decide_eq_true hk)⟩
  · obtain ⟨its, rv, pt, hz⟩ := I.tuple hl
    have pt2 : s.heap.IsTuple l its.toArray := pt
    refine call_set_tupI ns (I.ok.hd hc) pt2 (by simpa using ints_of_vals rv) few1 fun h' tk c hS hc2 hk => ?_
    exact ⟨.ref _, upd H s.heap.objs.size (SetO X.w s.heap.objs.size (fun j => decide (j ∈ ns)) c), I.laid (t' := tk) hk (Nat.le_refl _) (setO_new hS), rfl, q _ _ free fun D hD => setR_count hS fun k hk => hD k (of_decide_eq_true hk)⟩
end Ft

set_option Elab.async false
set_option linter.all false
set_option maxRecDepth 100000
set_option maxHeartbeats 4000000
/-! Plain mathematics: the law's own way of meeting places, row by row -/
namespace Ft
structure Layer (n : Nat) (rs : List (Nat × Nat)) (ws : List Nat) (a : Nat) (F W : List Nat) : Prop where
  nd : F.Nodup
  lt : ∀ b ∈ F, b < n
  fair : ∀ b ∈ F, Reach rs ws a b
  wait : ∀ x ∈ W, x = a ∨ (x ∈ F ∧ x ∉ ws)
  ok : ∀ x, (x = a ∨ (x ∈ F ∧ x ∉ ws)) → x ∈ W ∨ ∀ b, (x, b) ∈ rs → b ∈ F
theorem Layer.start {n : Nat} {rs : List (Nat × Nat)} {ws : List Nat} {a : Nat} : Layer n rs ws a [] [a] :=
  ⟨List.nodup_nil, fun _ h => absurd h List.not_mem_nil, fun _ h => absurd h List.not_mem_nil, fun x h => .inl (List.mem_singleton.mp h), fun x h => by
    rcases h with h | h
    · exact .inl (List.mem_singleton.mpr h)
    · exact absurd h.1 List.not_mem_nil⟩
theorem Layer.step {n : Nat} {rs : List (Nat × Nat)} {ws : List Nat} {a : Nat} {F W A : List Nat} (L : Layer n rs ws a F W) (inR : ∀ p ∈ rs, p.1 < n ∧ p.2 < n) (nd : A.Nodup) (hA : ∀ b, b ∈ A ↔ ∃ x ∈ W, (x, b) ∈ rs) :
    Layer n rs ws a (F ++ A.filter fun b => !decide (b ∈ F)) ((A.filter fun b => !decide (b ∈ F)).filter fun b => !decide (b ∈ ws)) := by
  have mem : ∀ b, b ∈ A.filter (fun b => !decide (b ∈ F)) ↔ b ∈ A ∧ b ∉ F := fun b => by simp [List.mem_filter]
  have fairA : ∀ b ∈ A, b < n ∧ Reach rs ws a b := by
    intro b hb
    obtain ⟨x, hx, hr⟩ := (hA b).mp hb
    refine ⟨(inR _ hr).2, ?_⟩
    rcases L.wait x hx with e | ⟨h1, h2⟩
    · rw [e] at hr
      exact .one hr
    · exact .more (L.fair x h1) h2 hr
  refine ⟨?_, ?_, ?_, ?_, ?_⟩
  · rw [List.nodup_append]
    refine ⟨L.nd, nd.filter _, fun x hx y hy e => ?_⟩
    exact ((mem y).mp hy).2 (e ▸ hx)
  · intro b hb
    rcases List.mem_append.mp hb with hb | hb
    · exact L.lt b hb
    · exact (fairA b ((mem b).mp hb).1).1
  · intro b hb
    rcases List.mem_append.mp hb with hb | hb
    · exact L.fair b hb
    · exact (fairA b ((mem b).mp hb).1).2
  · intro x hx
    rw [List.mem_filter] at hx
    exact .inr ⟨List.mem_append_right _ hx.1, by simpa using hx.2⟩
  · intro x hx
    have old : (x = a ∨ (x ∈ F ∧ x ∉ ws)) → ∀ b, (x, b) ∈ rs → b ∈ F ++ A.filter fun b => !decide (b ∈ F) := by
      intro h b hb
      rcases L.ok x h with h1 | h1
      · by_cases hf : b ∈ F
        · exact List.mem_append_left _ hf
        · exact List.mem_append_right _ ((mem b).mpr ⟨(hA b).mpr ⟨x, h1, hb⟩, hf⟩)
      · exact List.mem_append_left _ (h1 b hb)
    rcases hx with e | ⟨h1, h2⟩
    · exact .inr (old (.inl e))
    · rcases List.mem_append.mp h1 with h1 | h1
      · exact .inr (old (.inr ⟨h1, h2⟩))
      · exact .inl (List.mem_filter.mpr ⟨h1, by simpa using h2⟩)
theorem Layer.ends {n : Nat} {rs : List (Nat × Nat)} {ws : List Nat} {a : Nat} {F : List Nat} (L : Layer n rs ws a F []) (x : Nat) : x ∈ F ↔ x < n ∧ ∃ a' ∈ [a], Reach rs ws a' x := by
  constructor
  · intro h
    exact ⟨L.lt x h, a, List.mem_singleton.mpr rfl, L.fair x h⟩
  · rintro ⟨_, a', ha', r⟩
    rw [List.mem_singleton.mp ha'] at r
    refine r.within (S := (· ∈ F)) (fun y hy => ?_) fun y z hy hw hz => ?_
    · rcases L.ok a (.inl rfl) with h | h
      · exact absurd h List.not_mem_nil
      · exact h y hy
    · rcases L.ok y (.inr ⟨hy, hw⟩) with h | h
      · exact absurd h List.not_mem_nil
      · exact h z hz
/-- a sorted row of a set's numbers -/
theorem set_nat {ns : List Int} {A : List Nat} (up : ns.Pairwise (· < ·)) (mem : ∀ j : Int, j ∈ ns ↔ decide (j ∈ iN A) = true) : ∃ wl : List Nat, ns = iN wl ∧ wl.Pairwise (· < ·) ∧ ∀ x, x ∈ wl ↔ x ∈ A := by
  have nn : ∀ y ∈ ns, 0 ≤ y := by
    intro y hy
    have := of_decide_eq_true ((mem y).mp hy)
    unfold iN at this
    obtain ⟨z, _, ez⟩ := List.mem_map.mp this
    omega
  have e : ns = iN (ns.map Int.toNat) := by
    unfold iN
    rw [List.map_map]
    conv => lhs; rw [← List.map_id ns]
    exact List.map_congr_left fun y hy => (Int.toNat_of_nonneg (nn y hy)).symm
  refine ⟨ns.map Int.toNat, e, ?_, fun x => ?_⟩
  · rw [e] at up
    unfold iN at up
    exact (List.pairwise_map.mp up).imp fun h => by omega
  · constructor
    · intro h
      obtain ⟨y, hy, ey⟩ := List.mem_map.mp h
      have h2 := of_decide_eq_true ((mem y).mp hy)
      have h3 : y = (x : Int) := by
        have := nn y hy
        omega
      rw [h3] at h2
      exact iN_mem.mp h2
    · intro h
      exact List.mem_map.mpr ⟨(x : Int), (mem _).mpr (decide_eq_true (iN_mem.mpr h)), by omega⟩
end Ft

set_option Elab.async false
set_option linter.all false
set_option maxRecDepth 100000
set_option maxHeartbeats 8000000
namespace Ft
open PySem PySem.Spec PyProof.Rows L2
theorem ahead_mem {rs : List (Nat × Nat)} {W : List Nat} {b : Nat} : b ∈ (rs.filter fun p => decide (p.1 ∈ W)).map (·.2) ↔ ∃ x ∈ W, (x, b) ∈ rs := by
  simp only [List.mem_map, List.mem_filter, decide_eq_true_eq]
  constructor
  · rintro ⟨⟨x, y⟩, ⟨h1, h2⟩, rfl⟩
    exact ⟨x, h2, h1⟩
  · rintro ⟨x, h1, h2⟩
    exact ⟨(x, b), ⟨h2, h1⟩, rfl⟩
section
variable {P : Program} {w : World} {K : PySem.W.Frag} {mg : Str → Option Value} {base : Heap} {t1 t2 : Tok}
/-! ### _law_map_met -/
def sp_law_map_met (K : PySem.W.Frag) : Sp := fun vs H Q _ => ∃ (c : Addr) (C : Chart) (a : Nat), vs = [.ref c, vN a] ∧ IsChart K H c C ∧ C.Ok ∧ a < C.n ∧ ∀ q H', Same H H' → H q = none → H' q = some (.lst ((met C.n C.roads C.wished [a]).map vN)) → Q (.ref q) H'
theorem cal_law_map_met (T : Txt mg) (D : Def K mg "_law_map_met" s_law_map_met) : Cal P w K mg base 2 "_law_map_met" (sp_law_map_met K) := by
  refine cal_of D sc_law_map_met (fun _ _ _ _ _ _ us hl => match us, hl with | [_, _], _ => rfl) (fun vs H Q E h => ?_) (fun f cdv A outer s H vs Q E hr h => ?_)
  · obtain ⟨c, C, a, rfl, _⟩ := h
    rfl
  · obtain ⟨c, C, a, rfl, ⟨r, wd, ts, hC⟩, ok, ha, q⟩ := h
    have n60 := ok.n60
    have hU := hr.units
    refine ⟨_, (pss_cons (ps_asg (pe_tup (pa_cons (pe_lst pa_nil) (pa_cons (pe_lst (pa_cons (pv 1) pa_nil)) pa_nil))) (show PG _ _ (gTup K 2 _) from pg_tup (by rfl) (pgs_cons (pg_name (i := 2) sc_law_map_met.nd rfl (Or.inr rfl)) (pgs_cons (pg_name (i := 3) sc_law_map_met.nd rfl (Or.inr rfl)) pgs_nil))))
      (pss_cons (ps_for PassesOwn.never rfl (pi_range1 (by rfl) T.range (pa_cons (pe_op op_add (pe_ix (show IxR _ (rIxT K) from ix_tup) (pv 0) pe_int (fun _ _ => rfl)) pe_int) pa_nil)) (pg_name (i := 4) sc_law_map_met.nd rfl (Or.inl rfl)) (pss_cons (ps_setLc (i := 5) (own := [("road", 6)]) rfl sc_law_map_met.nd rfl rfl (sw_true rfl rfl rfl (by decide +kernel)) (show PI _ _ _ (iTup K _) from pi_tup (pe_ix (show IxR _ (rIxT K) from ix_tup) (pv 0) pe_int (fun _ _ => rfl))) (blkOk_by (N := ["chart", "a", "found", "left", "turn", "ahead", "road", "b"]) (sc := L2.defScope s_law_map_met) (by decide +kernel)) (fun _ _ _ _ _ => (pg_name (i := 6) sc_law_map_met.nd rfl (Or.inl rfl))) (fun _ _ _ _ _ => pts_one (pt_cmpR (show OpR _ _ (rIn K false) from op_in_seq) (pe_ix (show IxR _ (rIxT K) from ix_tup) (pv 6) pe_int (fun _ _ => rfl)) (pv 3) (by rfl))) (fun _ _ _ _ _ => (pe_ix (show IxR _ (rIxT K) from ix_tup) (pv 6) pe_int (fun _ _ => rfl))))
        (pss_cons (ps_setLc (i := 5) (own := [("b", 7)]) rfl sc_law_map_met.nd rfl rfl (sw_true rfl rfl rfl (by decide +kernel)) (show PI _ _ _ (iList K _) from pi_list (pe_callB (show CallR _ _ (rSortedSet w) from cr_sortedSet rfl) (by rfl) T.sorted (by decide +kernel) (pa_cons (pe_callTy (show CallR _ _ (rSetN K w) from cr_setN rfl) (by rfl) T.set (by decide +kernel) (pa_cons (pv 5) pa_nil)) pa_nil))) (blkOk_by (N := ["chart", "a", "found", "left", "turn", "ahead", "road", "b"]) (sc := L2.defScope s_law_map_met) (by decide +kernel)) (fun _ _ _ _ _ => (pg_name (i := 7) sc_law_map_met.nd rfl (Or.inl rfl))) (fun _ _ _ _ _ => pts_one (pt_cmpR (show OpR _ _ (rIn K true) from op_notIn_seq) (pv 7) (pv 2) (by rfl))) (fun _ _ _ _ _ => (pv 7)))
        (pss_cons (ps_set (i := 2) sc_law_map_met.nd rfl (Or.inr rfl) (pe_op op_cat (pv 2) (pv 5)))
        (pss_cons (ps_set (i := 3) sc_law_map_met.nd rfl (Or.inr rfl) (pe_lc (own := [("b", 7)]) rfl sc_law_map_met.nd (show PI _ _ _ (iList K _) from pi_list (pv 5)) (blkOk_by (N := ["chart", "a", "found", "left", "turn", "ahead", "road", "b"]) (sc := L2.defScope s_law_map_met) (by decide +kernel)) (fun _ _ _ _ _ => (pg_name (i := 7) sc_law_map_met.nd rfl (Or.inl rfl))) (fun _ _ _ _ _ => pts_one (pt_cmpR (show OpR _ _ (rIn K true) from op_notIn_seq) (pv 7) (pe_ix (show IxR _ (rIxT K) from ix_tup) (pv 0) pe_int (fun _ _ => rfl)) (by rfl))) (fun _ _ _ _ _ => (pv 7))))
        (pss_one (ps_if (pt_cmpR (show OpR _ _ (rEqD K) from op_eqD hU) (pv 3) (pe_lst pa_nil) (nomark _)) (pss_one ps_break) pss_nil)))))))
      (pss_one (ps_ret (pe_callB (show CallR _ _ (rSortedI K) from cr_sortedI) (by rfl) T.sorted (by decide +kernel) (pa_cons (pv 2) pa_nil)))))), ?_⟩
    refine ⟨Nat.zero_le _, fun f0 hf0 => ?_⟩
    have s1 : Same H (upd H f0 (.lst [])) := same_upd hf0
    have hF0 : (upd H f0 (.lst [])) f0 = some (.lst []) := upd_same
    generalize upd H f0 (.lst []) = H1 at s1 hF0
    refine ⟨_, rfl, by show 1 ≤ sizeLine; decide, fun w0 hw0 => ?_⟩
    have s2 : Same H1 (upd H1 w0 (.lst [vN a])) := same_upd hw0
    have hW0 : (upd H1 w0 (.lst [vN a])) w0 = some (.lst [vN a]) := upd_same
    generalize upd H1 w0 (.lst [vN a]) = H2 at s2 hW0
    refine ⟨by show 2 ≤ sizeLine; decide, fun tp htp => ?_⟩
    have s3 : Same H2 (upd H2 tp (.tup [.ref f0, .ref w0])) := same_upd htp
    refine ⟨tp, _, rfl, .inl (.inl upd_same), rfl, _, _, rfl, _, _, rfl, rfl, ?_⟩
    generalize upd H2 tp (.tup [.ref f0, .ref w0]) = H3 at s3
    have s13 := (s1.trans s2).trans s3
    have n1 : ((C.n : Int) + 1).toNat = C.n + 1 := by omega
    refine ⟨_, rfl, _, _, _, _, rfl, rfl, (hC.same s13).top, rfl, _, _, rfl, rfl, _, rfl, by show -2 ^ 62 ≤ (C.n : Int) + 1; omega, by show (C.n : Int) + 1 < 2 ^ 62; omega, for_range (lo := 0) (n := ((C.n : Int) + 1).toNat) (fun i σ H' => ∃ (fa wa : Addr) (F W : List Nat) (v4 v5 v6 v7 : Option V), σ = [some (.ref c), some (vN a), some (.ref fa), some (.ref wa), v4, v5, v6, v7] ∧ Same H H' ∧
      H' fa = some (.lst (F.map vN)) ∧ H' wa = some (.lst (W.map vN)) ∧ Layer C.n C.roads C.wished a F W ∧ i ≤ F.length) ?_ ?_ ?_⟩
    · exact ⟨f0, w0, [], [a], _, _, _, _, rfl, s13, s3 _ _ (s2 _ _ hF0), s3 _ _ hW0, Layer.start, Nat.zero_le _⟩
    · rintro i σ H4 hi ⟨fa, wa, F, W, v4, v5, v6, v7, rfl, s4, hF, hW, ly, cnt⟩
      have hC4 := hC.same s4
      have Fl := nodup_lt_len ly.nd ly.lt
      refine ⟨_, rfl, _, _, _, _, rfl, rfl, hC4.top, rfl, r, rfl, ⟨_, hC4.row⟩, fun e he => ?_⟩
      have keep4 : ∀ {H' : Hp}, Kp [e] H4 H' → Same H4 H' := fun {H'} k b o e' => k b o (fun m => by rw [List.mem_singleton.mp m, he] at e'; cases e') e'
      refine lc_tup (K := K) (xs := ts.map V.ref) (fun j H' => Kp [e] H4 H' ∧ H' e = some (.lst ((((C.roads.take j).filter fun p => decide (p.1 ∈ W)).map (·.2)).map vN)))
        ⟨(fun b o x e' => by rw [upd_ne (ne_of_none e' he)]; exact e'), upd_same⟩ (fun j H' _ ⟨k, _⟩ => Same.sqT (keep4 k) hC4.row) ?_ ?_
      · rintro j x H5 hx ⟨k5, hE⟩
        obtain ⟨t, ht, rfl⟩ := get_map hx
        obtain ⟨q0, hq0, pt⟩ := paired_getL hC4.prs ht
        have pt5 := Same.sqT (keep4 k5) pt
        have hW5 := keep4 k5 _ _ hW
        have jl : j < C.roads.length := (List.getElem?_eq_some_iff.mp hq0).1
        have m240 := ok.many
        refine ⟨rfl, ?_⟩
        refine ⟨_, rfl, t, _, _, _, rfl, rfl, pt5, rfl, _, rfl, wa, _, rfl, .inl (.inl (.inl hW5)), rfl, all_vN W, _, rfl, ?_⟩
        show if inV (vN q0.1) (W.map vN) = true then _ else _
        rw [in_vN]
        by_cases hw : q0.1 ∈ W
        · rw [decide_eq_true hw]
          refine iteT ?_
          refine ⟨_, rfl, t, _, _, _, rfl, rfl, pt5, rfl, _, hE, ?_, ?_, ?_⟩
          · rw [List.length_map, List.length_map]
            have h1 := List.length_filter_le (fun p : Nat × Nat => decide (p.1 ∈ W)) (C.roads.take j)
            have h2 : (C.roads.take j).length ≤ j := by rw [List.length_take]; omega
            exact small1000 (by omega)
          · intro b o nb eb
            rw [upd_ne (fun z => nb (by rw [z]; simp))]
            exact k5 b o nb eb
          · rw [upd_same, take_more hq0, List.filter_append, List.map_append, List.map_append]
            simp [hw]
        · rw [decide_eq_false hw]
          refine iteF ⟨k5, ?_⟩
          rw [hE, take_more hq0, List.filter_append]
          simp [hw]
      rintro H5 ⟨k5, hE⟩
      rw [List.take_of_length_le (by rw [List.length_map]; exact Nat.le_of_eq (Paired.length hC4.prs).symm)] at hE
      have s5 := keep4 k5
      refine ⟨_, rfl, e, iN ((C.roads.filter fun p => decide (p.1 ∈ W)).map (·.2)), rfl, .inl (.inl (.inl (by rw [← vN_map]; exact hE))), ?_, fun sa n2 hsa hn2 => ?_⟩
      · rw [iN_length, List.length_map]
        have h1 := List.length_filter_le (fun p : Nat × Nat => decide (p.1 ∈ W)) C.roads
        have := ok.many
        omega
      have few : n2 < 64 := by
        have := hn2 (iN (List.range C.n)) fun k hk => by
          unfold iN at hk
          obtain ⟨b, hb, rfl⟩ := List.mem_map.mp hk
          obtain ⟨x, _, hr'⟩ := ahead_mem.mp hb
          exact iN_mem.mpr (List.mem_range.mpr (ok.inR _ hr').2)
        rw [iN_length, List.length_range] at this
        omega
      refine ⟨sa, _, n2, rfl, upd_same, few, fun ns u2 up2 mem2 _ hu2 => ?_⟩
      obtain ⟨wl, rfl, upw, memw⟩ := set_nat up2 mem2
      have s6 : Same H5 (upd (upd H5 sa (SetO w sa (fun j => decide (j ∈ iN ((C.roads.filter fun p => decide (p.1 ∈ W)).map (·.2)))) n2)) u2 (.lst ((iN wl).map V.int))) := (same_upd hsa).trans (same_upd hu2)
      have hU2 : (upd (upd H5 sa (SetO w sa (fun j => decide (j ∈ iN ((C.roads.filter fun p => decide (p.1 ∈ W)).map (·.2)))) n2)) u2 (.lst ((iN wl).map V.int))) u2 = some (.lst (wl.map vN)) := by rw [upd_same, vN_map]
      generalize upd (upd H5 sa (SetO w sa (fun j => decide (j ∈ iN ((C.roads.filter fun p => decide (p.1 ∈ W)).map (·.2)))) n2)) u2 (.lst ((iN wl).map V.int)) = H6 at s6 hU2
      have memW : ∀ b, b ∈ wl ↔ ∃ x ∈ W, (x, b) ∈ C.roads := fun b => (memw b).trans ahead_mem
      have wll : wl.length ≤ C.n := up_len upw fun b hb => by
        obtain ⟨x, _, hr'⟩ := (memW b).mp hb
        exact (ok.inR _ hr').2
      have ly' := ly.step ok.inR (up_nodup upw) memW
      have hF6 := s6 _ _ (s5 _ _ hF)
      refine ⟨u2, rfl, ⟨_, .inl (.inl hU2)⟩, fun d hd => ?_⟩
      have keep6 : ∀ {H' : Hp}, Kp [d] H6 H' → Same H6 H' := fun {H'} k b o e' => k b o (fun m => by rw [List.mem_singleton.mp m, hd] at e'; cases e') e'
      refine lc_list (K := K) (xs := wl.map vN) (fun j H' => Kp [d] H6 H' ∧ H' d = some (.lst (((wl.take j).filter fun b => !decide (b ∈ F)).map vN)))
        ⟨(fun b o x e' => by rw [upd_ne (ne_of_none e' hd)]; exact e'), upd_same⟩ (fun j H' _ ⟨k, _⟩ => .inl (.inl (keep6 k _ _ hU2))) ?_ ?_
      · rintro j x H7 hx ⟨k7, hD⟩
        obtain ⟨b, hb, rfl⟩ := get_map hx
        refine ⟨rfl, ?_⟩
        refine ⟨_, rfl, _, rfl, fa, _, rfl, .inl (.inl (.inl (keep6 k7 _ _ hF6))), rfl, all_vN F, _, rfl, ?_⟩
        show if (!inV (vN b) (F.map vN)) = true then _ else _
        rw [in_vN]
        by_cases hw : b ∈ F
        · rw [decide_eq_true hw]
          refine iteF ⟨k7, ?_⟩
          rw [hD, take_more hb, List.filter_append]
          simp [hw]
        · rw [decide_eq_false hw]
          refine iteT ?_
          refine ⟨_, rfl, _, hD, ?_, ?_, ?_⟩
          · rw [List.length_map]
            have h1 := List.length_filter_le (fun b => !decide (b ∈ F)) (wl.take j)
            have h2 : (wl.take j).length ≤ wl.length := by rw [List.length_take]; omega
            exact small1000 (by omega)
          · intro b' o nb eb
            rw [upd_ne (fun z => nb (by rw [z]; simp))]
            exact k7 b' o nb eb
          · rw [upd_same, take_more hb, List.filter_append, List.map_append]
            simp [hw]
      rintro H7 ⟨k7, hD⟩
      rw [List.take_of_length_le (by rw [List.length_map]; exact Nat.le_refl _)] at hD
      obtain ⟨A3, eA3⟩ : ∃ A3, A3 = wl.filter fun b => !decide (b ∈ F) := ⟨_, rfl⟩
      rw [← eA3] at hD ly'
      have A3l : A3.length ≤ 60 := by
        rw [eA3]
        have := List.length_filter_le (fun b => !decide (b ∈ F)) wl
        omega
      have s7 := keep6 k7
      have hF7 := s7 _ _ hF6
      refine ⟨_, rfl, _, rfl, fa, d, _, _, rfl, rfl, hF7, hD, ?_, fun fa' hfa' => ?_⟩
      · rw [List.length_map, List.length_map]
        have : (1000 : Nat) ≤ sizeLine := by decide
        omega
      have s8 : Same H7 (upd H7 fa' (.lst (F.map vN ++ A3.map vN))) := same_upd hfa'
      have hF8 : (upd H7 fa' (.lst (F.map vN ++ A3.map vN))) fa' = some (.lst ((F ++ A3).map vN)) := by rw [upd_same, List.map_append]
      generalize upd H7 fa' (.lst (F.map vN ++ A3.map vN)) = H8 at s8 hF8
      have s48 : Same H4 H8 := (s5.trans s6).trans (s7.trans s8)
      have hD8 := s8 _ _ hD
      have hC8 := hC4.same s48
      refine ⟨_, rfl, d, rfl, ⟨_, .inl (.inl hD8)⟩, fun g hg => ?_⟩
      have keep8 : ∀ {H' : Hp}, Kp [g] H8 H' → Same H8 H' := fun {H'} k b o e' => k b o (fun m => by rw [List.mem_singleton.mp m, hg] at e'; cases e') e'
      refine lc_list (K := K) (xs := A3.map vN) (fun j H' => Kp [g] H8 H' ∧ H' g = some (.lst (((A3.take j).filter fun b => !decide (b ∈ C.wished)).map vN)))
        ⟨(fun b o x e' => by rw [upd_ne (ne_of_none e' hg)]; exact e'), upd_same⟩ (fun j H' _ ⟨k, _⟩ => .inl (.inl (keep8 k _ _ hD8))) ?_ ?_
      · rintro j x H9 hx ⟨k9, hG⟩
        obtain ⟨b, hb, rfl⟩ := get_map hx
        have hC9 := hC8.same (keep8 k9)
        refine ⟨rfl, ?_⟩
        refine ⟨_, rfl, _, rfl, _, _, _, _, rfl, rfl, hC9.top, rfl, wd, _, rfl, .inr hC9.wis, rfl, all_vN C.wished, _, rfl, ?_⟩
        show if (!inV (vN b) (C.wished.map vN)) = true then _ else _
        rw [in_vN]
        by_cases hw : b ∈ C.wished
        · rw [decide_eq_true hw]
          refine iteF ⟨k9, ?_⟩
          rw [hG, take_more hb, List.filter_append]
          simp [hw]
        · rw [decide_eq_false hw]
          refine iteT ?_
          refine ⟨_, rfl, _, hG, ?_, ?_, ?_⟩
          · rw [List.length_map]
            have h1 := List.length_filter_le (fun b => !decide (b ∈ C.wished)) (A3.take j)
            have h2 : (A3.take j).length ≤ A3.length := by rw [List.length_take]; omega
            exact small1000 (by omega)
          · intro b' o nb eb
            rw [upd_ne (fun z => nb (by rw [z]; simp))]
            exact k9 b' o nb eb
          · rw [upd_same, take_more hb, List.filter_append, List.map_append]
            simp [hw]
      rintro H9 ⟨k9, hG⟩
      rw [List.take_of_length_le (by rw [List.length_map]; exact Nat.le_refl _)] at hG
      obtain ⟨W', eW'⟩ : ∃ W', W' = A3.filter fun b => !decide (b ∈ C.wished) := ⟨_, rfl⟩
      rw [← eW'] at hG ly'
      have s9 := s48.trans (keep8 k9)
      have hF9 := keep8 k9 _ _ hF8
      refine ⟨_, rfl, Nat.zero_le _, fun z hz => ?_⟩
      have s10 : Same H9 (upd H9 z (.lst [])) := same_upd hz
      have s40 := s9.trans s10
      have hF10 := s10 _ _ hF9
      have hG10 := s10 _ _ hG
      refine ⟨.list ((iN W').map .int), .list [], .lst (.inl (.inl hG10)) (by rw [vN_map]; exact dpAll_ints _), .lst (.inl (.inl upd_same)) .nil, ints_shaped _, rfl, _, rfl, ite_any (fun hc => ?_) (fun hc => ?_)⟩
      · have e0 : W' = [] := by
          cases W' with
          | nil => rfl
          | cons b W' => exact absurd hc (by simp [iN, PyData.eqv, PyData.eqvAll])
        rw [e0] at ly'
        refine ⟨_, rfl, fa', iN (F ++ A3), rfl, .inl (.inl (by rw [← vN_map]; exact hF10)), fun ns' pq pm' pw hpq => ?_⟩
        obtain ⟨l, el, upl, ml⟩ := sorted_iN ly'.nd pm' pw
        have e1 : l = met C.n C.roads C.wished [a] := those_is upl fun x => (ml x).trans (ly'.ends x)
        have s11 := (s4.trans s40).trans (same_upd (o := .lst (ns'.map V.int)) hpq)
        refine q pq _ s11 ((s4.trans s40).free hpq) ?_
        rw [upd_same, el, ← e1, vN_map]
        rfl
      · have ne : W' ≠ [] := fun e0 => by
          rw [e0] at hc
          exact absurd hc (by simp [iN, PyData.eqv, PyData.eqvAll])
        refine ⟨fa', g, F ++ A3, W', _, _, _, _, rfl, s4.trans s40, hF10, hG10, ly', ?_⟩
        have : 0 < A3.length := by
          rcases Nat.eq_zero_or_pos A3.length with e0 | e0
          · rw [eW', List.length_eq_zero_iff.mp e0] at ne
            exact absurd rfl ne
          · exact e0
        rw [List.length_append]
        omega
    · rintro σ H4 ⟨fa, wa, F, W, v4, v5, v6, v7, rfl, s4, hF, hW, ly, cnt⟩
      have Fl := nodup_lt_len ly.nd ly.lt
      rw [n1] at cnt
      omega
end
end Ft

set_option Elab.async false
set_option linter.all false
set_option maxRecDepth 100000
set_option maxHeartbeats 4000000
/-! Plain mathematics: the pieces of a map, and rows in their order -/
namespace Ft
theorem piece_mem {C : Chart} {a b : Nat} (hw : a ∉ C.wished) : b ∈ pieceOf C a ↔ b < C.n ∧ b ∉ C.wished ∧ (b = a ∨ (Reach C.roads C.wished a b ∧ Reach C.roads C.wished b a)) := by
  unfold pieceOf
  rw [if_neg hw]
  exact those_mem
theorem piece_eq {C : Chart} {a b : Nat} (hb : b ∈ pieceOf C a) : pieceOf C b = pieceOf C a := by
  by_cases hw : a ∈ C.wished
  · have e : pieceOf C a = [a] := by
      unfold pieceOf
      rw [if_pos hw]
    rw [e] at hb
    rw [List.mem_singleton.mp hb]
  · obtain ⟨bn, bw, rel⟩ := (piece_mem hw).mp hb
    refine asc_ext (piece_up C b) (piece_up C a) fun x => ?_
    rw [piece_mem bw, piece_mem hw]
    constructor
    · rintro ⟨xn, xw, h⟩
      refine ⟨xn, xw, ?_⟩
      rcases rel with e | ⟨r1, r2⟩
      · rw [e] at h
        exact h
      · rcases h with e | ⟨q1, q2⟩
        · rw [e]
          exact .inr ⟨r1, r2⟩
        · exact .inr ⟨r1.trans bw q1, q2.trans bw r2⟩
    · rintro ⟨xn, xw, h⟩
      refine ⟨xn, xw, ?_⟩
      rcases rel with e | ⟨r1, r2⟩
      · rw [e]
        exact h
      · rcases h with e | ⟨q1, q2⟩
        · rw [e]
          exact .inr ⟨r2, r1⟩
        · exact .inr ⟨r2.trans hw q1, q2.trans hw r1⟩
theorem piecesL_mem {C : Chart} {l : List Nat} : l ∈ piecesL C ↔ ∃ a ∈ unw C, l = pieceOf C a := by
  unfold piecesL
  constructor
  · intro h
    obtain ⟨a, ha, rfl⟩ := List.mem_map.mp h
    exact ⟨a, (List.mem_filter.mp ha).1, rfl⟩
  · rintro ⟨a, ha, rfl⟩
    have ha' := unw_mem.mp ha
    cases e : pieceOf C a with
    | nil =>
      have := piece_self ha'.1
      rw [e] at this
      exact absurd this List.not_mem_nil
    | cons h rest =>
      have hh : h ∈ pieceOf C a := by
        rw [e]
        exact List.mem_cons_self
      have hm := (piece_mem ha'.2).mp hh
      have e2 := piece_eq hh
      refine List.mem_map.mpr ⟨h, List.mem_filter.mpr ⟨unw_mem.mpr ⟨hm.1, hm.2.1⟩, ?_⟩, by rw [e2, e]⟩
      unfold isLeast
      rw [e2, e]
      simp
/-- rows ascending as rows -/
def ltL (p q : List Int) : Prop := p ≤ q ∧ p ≠ q
theorem ltL_asym {p q : List Int} (h1 : ltL p q) (h2 : ltL q p) : False := h1.2 (List.le_antisymm h1.1 h2.1)
theorem rows_ext : ∀ {l1 l2 : List (List Int)}, l1.Pairwise ltL → l2.Pairwise ltL → (∀ x, x ∈ l1 ↔ x ∈ l2) → l1 = l2
  | [], [], _, _, _ => rfl
  | [], b :: l2, _, _, h => absurd ((h b).mpr List.mem_cons_self) List.not_mem_nil
  | a :: l1, [], _, _, h => absurd ((h a).mp List.mem_cons_self) List.not_mem_nil
  | a :: l1, b :: l2, h1, h2, h => by
    obtain ⟨a1, p1⟩ := List.pairwise_cons.mp h1
    obtain ⟨a2, p2⟩ := List.pairwise_cons.mp h2
    have e : a = b := by
      rcases List.mem_cons.mp ((h a).mp List.mem_cons_self) with e | m
      · exact e
      · rcases List.mem_cons.mp ((h b).mpr List.mem_cons_self) with e | m'
        · exact e.symm
        · exact (ltL_asym (a2 a m) (a1 b m')).elim
    subst e
    refine congrArg (a :: ·) (rows_ext p1 p2 fun x => ⟨fun m => ?_, fun m => ?_⟩)
    · rcases List.mem_cons.mp ((h x).mp (List.mem_cons_of_mem _ m)) with e | m'
      · exact ((a1 x m).2 e.symm).elim
      · exact m'
    · rcases List.mem_cons.mp ((h x).mpr (List.mem_cons_of_mem _ m)) with e | m'
      · exact ((a2 x m).2 e.symm).elim
      · exact m'
theorem cons_ltL {a b : Int} {p q : List Int} (h : a < b) : ltL (a :: p) (b :: q) := by
  refine ⟨List.cons_le_cons_iff.mpr (.inl h), fun e => ?_⟩
  injection e with e1 _
  omega
theorem piecesL_up (C : Chart) : ((piecesL C).map iN).Pairwise ltL := by
  unfold piecesL
  rw [List.map_map]
  refine List.pairwise_map.mpr ?_
  refine List.Pairwise.imp_of_mem (fun {a b} ha hb h => ?_) ((unw_up C).filter (isLeast C))
  have la := (List.mem_filter.mp ha).2
  have lb := (List.mem_filter.mp hb).2
  unfold isLeast at la lb
  have la := of_decide_eq_true la
  have lb := of_decide_eq_true lb
  show ltL (iN (pieceOf C a)) (iN (pieceOf C b))
  cases ea : pieceOf C a with
  | nil =>
    rw [ea] at la
    cases la
  | cons x p =>
    cases eb : pieceOf C b with
    | nil =>
      rw [eb] at lb
      cases lb
    | cons y q =>
      rw [ea] at la
      rw [eb] at lb
      have e1 : x = a := Option.some.inj la
      have e2 : y = b := Option.some.inj lb
      rw [e1, e2]
      exact cons_ltL (show (a : Int) < (b : Int) by omega)
theorem iN_inj : ∀ {l1 l2 : List Nat}, iN l1 = iN l2 → l1 = l2
  | [], [], _ => rfl
  | [], _ :: _, h => by simp [iN] at h
  | _ :: _, [], h => by simp [iN] at h
  | a :: l1, b :: l2, h => by
    unfold iN at h
    rw [List.map_cons, List.map_cons] at h
    injection h with h1 h2
    have e : a = b := by omega
    rw [e, iN_inj (l1 := l1) (l2 := l2) h2]
/-- what is met, one place more -/
theorem those_yes {j : Nat} {P : Nat → Prop} (h : P j) : those (j + 1) P = those j P ++ [j] := by
  unfold those
  rw [List.range_succ, List.filter_append]
  congr 1
  rw [List.filter_cons]
  simp [h]
theorem those_no {j : Nat} {P : Nat → Prop} (h : ¬ P j) : those (j + 1) P = those j P := by
  unfold those
  rw [List.range_succ, List.filter_append]
  simp [h]
theorem met_mem {n : Nat} {rs : List (Nat × Nat)} {ws : List Nat} {a b : Nat} : b ∈ met n rs ws [a] ↔ b < n ∧ Reach rs ws a b := by
  unfold met
  rw [those_mem]
  constructor
  · rintro ⟨h, x, hx, r⟩
    rw [List.mem_singleton.mp hx] at r
    exact ⟨h, r⟩
  · rintro ⟨h, r⟩
    exact ⟨h, a, List.mem_singleton.mpr rfl, r⟩
end Ft

set_option Elab.async false
set_option linter.all false
set_option maxRecDepth 100000
set_option maxHeartbeats 8000000
namespace Ft
open PySem PySem.Spec PyProof.Rows L2
/-- the rows of what each place comes to -/
structure TabAt (H : Hp) (C : Chart) (q : Addr) (rows : List Addr) : Prop where
  len : rows.length = C.n
  at_ : LotsAt H q rows fun a => met C.n C.roads C.wished [a]
theorem TabAt.same {H H' : Hp} (k : Same H H') {C : Chart} {q : Addr} {rows : List Addr} (h : TabAt H C q rows) : TabAt H' C q rows := ⟨h.len, k _ _ h.at_.top, fun a l e => k _ _ (h.at_.each a l e)⟩
theorem rows_at {K : PySem.W.Frag} {H : Hp} : ∀ {L : List Row} {lls : List (List Nat)}, L.map (·.2) = lls.map iN → (∀ p ∈ L, SqT K H p.1 (p.2.map V.int)) → RowsAt K H (L.map (·.1)) lls
  | [], [], _, _ => .nil
  | [], _ :: _, e, _ => by simp at e
  | _ :: _, [], e, _ => by simp at e
  | p :: L, l :: lls, e, h => by
    rw [List.map_cons, List.map_cons] at e
    injection e with e1 e2
    refine .cons ?_ (rows_at e2 fun q hq => h q (List.mem_cons_of_mem _ hq))
    have := h p List.mem_cons_self
    rw [e1, ← vN_map] at this
    exact this
section
variable {P : Program} {w : World} {K : PySem.W.Frag} {mg : Str → Option Value} {base : Heap} {t1 t2 : Tok}
/-! ### _law_map_table -/
def sp_law_map_table (K : PySem.W.Frag) : Sp := fun vs H Q _ => ∃ (c : Addr) (C : Chart), vs = [.ref c] ∧ IsChart K H c C ∧ C.Ok ∧ ∀ q rows H', Same H H' → H q = none → (∀ l ∈ rows, H l = none) → TabAt H' C q rows → Q (.ref q) H'
theorem cal_law_map_table (T : Txt mg) (D : Def K mg "_law_map_table" s_law_map_table) (c_law_map_met : Cal P w K mg base 2 "_law_map_met" (sp_law_map_met K)) : Cal P w K mg base 3 "_law_map_table" (sp_law_map_table K) := by
  refine cal_of D sc_law_map_table (fun _ _ _ _ _ _ us hl => match us, hl with | [_], _ => rfl) (fun vs H Q E h => ?_) (fun f cdv A outer s H vs Q E hr h => ?_)
  · obtain ⟨c, C, rfl, _⟩ := h
    rfl
  · obtain ⟨c, C, rfl, ⟨r, wd, ts, hC⟩, ok, q⟩ := h
    have n60 := ok.n60
    refine ⟨_, (pss_one (ps_ret (pe_lc (own := [("a", 1)]) rfl sc_law_map_table.nd (pi_range1 (by rfl) T.range (pa_cons (pe_ix (show IxR _ (rIxT K) from ix_tup) (pv 0) pe_int (fun _ _ => rfl)) pa_nil)) (blkOk_by (N := ["chart", "a"]) (sc := L2.defScope s_law_map_table) (by decide +kernel)) (fun _ _ _ _ _ => (pg_name (i := 1) sc_law_map_table.nd rfl (Or.inl rfl))) (fun _ _ _ _ _ => pts_nil) (fun _ _ _ _ _ => (pe_c c_law_map_met hr (by decide) (by rfl) (pa_cons (pv 0) (pa_cons (pv 1) pa_nil))))))), ?_⟩
    refine ⟨_, rfl, _, _, _, _, rfl, rfl, hC.top, rfl, _, rfl, by omega, by omega, fun d hd => ?_⟩
    have keep : ∀ {H' : Hp}, Kp [d] H H' → Same H H' := fun {H'} k b o e' => k b o (fun m => by rw [List.mem_singleton.mp m, hd] at e'; cases e') e'
    refine lc_range (lo := 0) (n := C.n) (fun j H' => ∃ rows : List Addr, Kp [d] H H' ∧ H' d = some (.lst (rows.map V.ref)) ∧ rows.length = j ∧ (∀ l ∈ rows, H l = none) ∧ ∀ a l, rows[a]? = some l → l ≠ d ∧ H' l = some (.lst ((met C.n C.roads C.wished [a]).map vN)))
      ⟨[], (fun b o x e' => by rw [upd_ne (ne_of_none e' hd)]; exact e'), upd_same, rfl, (fun _ h => nomatch h), fun a l h => by simp at h⟩ ?_ ?_
    · rintro j H1 hj ⟨rows, k1, hD, len, new, each⟩
      have e0 : (0 : Int) + (j : Nat) = (j : Nat) := by omega
      refine ⟨rfl, ?_⟩
      rw [e0]
      refine ⟨_, rfl, _, rfl, c, C, j, rfl, ⟨r, wd, ts, hC.same (keep k1)⟩, ok, hj, fun m H2 s2 hm hM => ?_⟩
      have hD2 := s2 _ _ hD
      have md : m ≠ d := (ne_of_none hD hm).symm
      refine ⟨_, hD2, by rw [List.length_map]; exact small1000 (by omega), rows ++ [m], ?_, by rw [upd_same, List.map_append]; rfl, by rw [List.length_append, len]; rfl, ?_, ?_⟩
      · intro b o nb eb
        rw [upd_ne (fun z => nb (by rw [z]; simp))]
        exact s2 _ _ (k1 b o nb eb)
      · intro l hl
        rcases List.mem_append.mp hl with hl | hl
        · exact new l hl
        · rw [List.mem_singleton.mp hl]
          exact (keep k1).free hm
      · intro a l hl
        by_cases ha : a < rows.length
        · rw [List.getElem?_append_left ha] at hl
          obtain ⟨n1, e1⟩ := each a l hl
          exact ⟨n1, by rw [upd_ne n1]; exact s2 _ _ e1⟩
        · have hl' := hl
          rw [List.getElem?_append_right (by omega)] at hl
          have a0 : a - rows.length = 0 := by
            rcases Nat.eq_zero_or_pos (a - rows.length) with e | e
            · exact e
            · have : (rows ++ [m]).length ≤ a := by
                rw [List.length_append, List.length_singleton]
                omega
              rw [List.getElem?_eq_none this] at hl'
              cases hl'
          rw [a0] at hl
          have e1 : m = l := by simpa using hl
          have e2 : a = j := by omega
          rw [← e1, e2]
          exact ⟨md, by rw [upd_ne md]; exact hM⟩
    · rintro H1 ⟨rows, k1, hD, len, new, each⟩
      exact q d rows H1 (keep k1) hd new ⟨len, hD, fun a l e => (each a l e).2⟩
/-! ### _law_map_piece -/
def sp_law_map_piece (K : PySem.W.Frag) : Sp := fun vs H Q _ => ∃ (c tb : Addr) (C : Chart) (rows : List Addr) (a : Nat), vs = [.ref c, .ref tb, vN a] ∧ IsChart K H c C ∧ C.Ok ∧ a < C.n ∧ TabAt H C tb rows ∧ ∀ t H', Same H H' → SqT K H' t ((pieceOf C a).map vN) → Q (.ref t) H'
theorem cal_law_map_piece (T : Txt mg) (D : Def K mg "_law_map_piece" s_law_map_piece) : Cal P w K mg base 2 "_law_map_piece" (sp_law_map_piece K) := by
  refine cal_of D sc_law_map_piece (fun _ _ _ _ _ _ us hl => match us, hl with | [_, _, _], _ => rfl) (fun vs H Q E h => ?_) (fun f cdv A outer s H vs Q E hr h => ?_)
  · obtain ⟨c, tb, C, rows, a, rfl, _⟩ := h
    rfl
  · obtain ⟨c, tb, C, rows, a, rfl, ⟨r, wd, ts, hC⟩, ok, ha, hT, q⟩ := h
    have n60 := ok.n60
    refine ⟨_, (pss_cons (ps_if (pt_cmpR (show OpR _ _ (rIn K false) from op_in_seq) (pv 2) (pe_ix (show IxR _ (rIxT K) from ix_tup) (pv 0) pe_int (fun _ _ => rfl)) (by rfl)) (pss_one (ps_ret (pe_tup (pa_cons (pv 2) pa_nil)))) pss_nil)
      (pss_one (ps_ret (pe_callTy (show CallR _ _ (rTupleOf K) from call_tupleOf) (by rfl) T.tuple (by decide +kernel) (pa_cons (pe_lc (own := [("b", 3)]) rfl sc_law_map_piece.nd (pi_range1 (by rfl) T.range (pa_cons (pe_ix (show IxR _ (rIxT K) from ix_tup) (pv 0) pe_int (fun _ _ => rfl)) pa_nil)) (blkOk_by (N := ["chart", "table", "a", "b"]) (sc := L2.defScope s_law_map_piece) (by decide +kernel)) (fun _ _ _ _ _ => (pg_name (i := 3) sc_law_map_piece.nd rfl (Or.inl rfl))) (fun _ _ _ _ _ => pts_one (PW.pt (pw_and (pt_cmpR (show OpR _ _ (rIn K true) from op_notIn_seq) (pv 3) (pe_ix (show IxR _ (rIxT K) from ix_tup) (pv 0) pe_int (fun _ _ => rfl)) (by rfl)) (pw_and1 (PW.pt (pw_or (pt_cmpR op_eq (pv 3) (pv 2) (nomark _)) (pw_or1 (PW.pt (pw_and (pt_cmpR (show OpR _ _ (rIn K false) from op_in_seq) (pv 3) (pe_ix (show IxR _ (rIxL K) from ix_list) (pv 1) (pv 2) (fun _ _ => rfl)) (by rfl)) (pw_and1 (pt_cmpR (show OpR _ _ (rIn K false) from op_in_seq) (pv 2) (pe_ix (show IxR _ (rIxL K) from ix_list) (pv 1) (pv 3) (fun _ _ => rfl)) (by rfl)))))))))))) (fun _ _ _ _ _ => (pv 3))) pa_nil))))), ?_⟩
    refine ⟨_, rfl, _, rfl, _, _, _, _, rfl, rfl, hC.top, rfl, wd, _, rfl, .inr hC.wis, rfl, all_vN C.wished, _, rfl, ?_⟩
    show if inV (vN a) (C.wished.map vN) = true then _ else _
    rw [in_vN]
    by_cases hw : a ∈ C.wished
    · rw [decide_eq_true hw]
      refine iteT ?_
      refine ⟨_, rfl, by show 1 ≤ sizeLine; decide, fun t ht => ?_⟩
      refine q t _ (same_upd ht) (.inl (.inl ?_))
      have e : pieceOf C a = [a] := by
        unfold pieceOf
        rw [if_pos hw]
      rw [upd_same, e]
      rfl
    · rw [decide_eq_false hw]
      refine iteF ?_
      refine ⟨_, rfl, _, _, _, _, rfl, rfl, hC.top, rfl, _, rfl, by omega, by omega, fun d hd => ?_⟩
      have keep : ∀ {H' : Hp}, Kp [d] H H' → Same H H' := fun {H'} k b o e' => k b o (fun m => by rw [List.mem_singleton.mp m, hd] at e'; cases e') e'
      obtain ⟨Pr, ePr⟩ : ∃ Pr : Nat → Prop, Pr = fun b => b ∉ C.wished ∧ (b = a ∨ (b ∈ met C.n C.roads C.wished [a] ∧ a ∈ met C.n C.roads C.wished [b])) := ⟨_, rfl⟩
      refine lc_range (lo := 0) (n := C.n) (fun j H' => Kp [d] H H' ∧ H' d = some (.lst ((those j Pr).map vN)))
        ⟨(fun b o x e' => by rw [upd_ne (ne_of_none e' hd)]; exact e'), upd_same⟩ ?_ ?_
      · rintro j H1 hj ⟨k1, hD⟩
        have e0 : (0 : Int) + (j : Nat) = (j : Nat) := by omega
        have hC1 := hC.same (keep k1)
        have hT1 := hT.same (keep k1)
        obtain ⟨ra, hra⟩ : ∃ t, rows[a]? = some t := ⟨_, List.getElem?_eq_getElem (by rw [hT.len]; exact ha)⟩
        obtain ⟨rj, hrj⟩ : ∃ t, rows[j]? = some t := ⟨_, List.getElem?_eq_getElem (by rw [hT.len]; exact hj)⟩
        refine ⟨rfl, ?_⟩
        rw [e0]
        have no : ¬ Pr j → Kp [d] H H1 ∧ H1 d = some (.lst ((those (j + 1) Pr).map vN)) := fun h => ⟨k1, by rw [those_no h]; exact hD⟩
        have len : (those j Pr).length ≤ j := those_len j Pr
        have yes : Pr j → (V.int (j : Int) = vN j) ∧ H1 d = some (.lst ((those j Pr).map vN)) ∧ ((those j Pr).map vN).length < sizeLine ∧ Kp [d] H (upd H1 d (.lst ((those j Pr).map vN ++ [vN j]))) ∧ (upd H1 d (.lst ((those j Pr).map vN ++ [vN j]))) d = some (.lst ((those (j + 1) Pr).map vN)) := fun h =>
          ⟨rfl, hD, by rw [List.length_map]; exact small1000 (by omega), fun b o nb eb => by rw [upd_ne (fun z => nb (by rw [z]; simp))]; exact k1 b o nb eb, by rw [upd_same, those_yes h, List.map_append]; rfl⟩
        refine ⟨_, rfl, _, rfl, _, _, _, _, rfl, rfl, hC1.top, rfl, wd, _, rfl, .inr hC1.wis, rfl, all_vN C.wished, _, rfl, ?_⟩
        show if (!inV (vN j) (C.wished.map vN)) = true then _ else _
        rw [in_vN]
        by_cases jw : j ∈ C.wished
        · rw [decide_eq_true jw]
          exact iteF (no (by rw [ePr]; exact fun h => h.1 jw))
        · rw [decide_eq_false jw]
          refine iteT ?_
          refine ⟨_, rfl, _, rfl, rfl, _, rfl, ?_⟩
          by_cases ja : j = a
          · have : decide (V.int (j : Int) = vN a) = true := by
              rw [ja]
              exact decide_eq_true rfl
            rw [this]
            refine iteT ?_
            obtain ⟨_, y1, y2, y3, y4⟩ := yes (by rw [ePr]; exact ⟨jw, .inl ja⟩)
            exact ⟨_, rfl, _, y1, y2, y3, y4⟩
          · have : decide (V.int (j : Int) = vN a) = false := by
              refine decide_eq_false fun e => ja ?_
              have := V.int.inj e
              omega
            rw [this]
            refine iteF ?_
            refine ⟨_, rfl, _, rfl, _, rfl, tb, _, _, _, rfl, rfl, .inl (.inl hT1.at_.top), atI_nat (v := V.ref ra) (by rw [List.getElem?_map, hra]; rfl), ra, _, rfl, .inl (.inl (.inl (hT1.at_.each a ra hra))), rfl, all_vN _, _, rfl, ?_⟩
            show if inV (vN j) ((met C.n C.roads C.wished [a]).map vN) = true then _ else _
            rw [in_vN]
            by_cases m1 : j ∈ met C.n C.roads C.wished [a]
            · rw [decide_eq_true m1]
              refine iteT ?_
              refine ⟨_, rfl, _, rfl, _, rfl, tb, _, _, _, rfl, rfl, .inl (.inl hT1.at_.top), atI_nat (v := V.ref rj) (by rw [List.getElem?_map, hrj]; rfl), rj, _, rfl, .inl (.inl (.inl (hT1.at_.each j rj hrj))), rfl, all_vN _, _, rfl, ?_⟩
              show if inV (vN a) ((met C.n C.roads C.wished [j]).map vN) = true then _ else _
              rw [in_vN]
              by_cases m2 : a ∈ met C.n C.roads C.wished [j]
              · rw [decide_eq_true m2]
                refine iteT ?_
                obtain ⟨_, y1, y2, y3, y4⟩ := yes (by rw [ePr]; exact ⟨jw, .inr ⟨m1, m2⟩⟩)
                exact ⟨_, rfl, _, y1, y2, y3, y4⟩
              · rw [decide_eq_false m2]
                exact iteF (no (by rw [ePr]; exact fun h => h.2.elim ja fun h => m2 h.2))
            · rw [decide_eq_false m1]
              exact iteF (no (by rw [ePr]; exact fun h => h.2.elim ja fun h => m1 h.1))
      · rintro H1 ⟨k1, hD⟩
        have e : those C.n Pr = pieceOf C a := by
          refine asc_ext (those_up _ _) (piece_up C a) fun x => ?_
          rw [those_mem, piece_mem hw, ePr]
          constructor
          · rintro ⟨xn, xw, h⟩
            exact ⟨xn, xw, h.imp id fun h => ⟨(met_mem.mp h.1).2, (met_mem.mp h.2).2⟩⟩
          · rintro ⟨xn, xw, h⟩
            exact ⟨xn, xw, h.imp id fun h => ⟨met_mem.mpr ⟨xn, h.1⟩, met_mem.mpr ⟨ha, h.2⟩⟩⟩
        rw [e] at hD
        refine ⟨d, _, rfl, .inl ⟨.inl (.inl hD), fun t ht => ?_⟩⟩
        exact q t _ ((keep k1).trans (same_upd ht)) (.inl (.inl upd_same))
end
end Ft

set_option Elab.async false
set_option linter.all false
set_option maxRecDepth 100000
set_option maxHeartbeats 4000000
namespace Ft
open PySem PySem.Spec PyProof.Rows L2
/-- any walk within a block, its turns by an invariant -/
theorem by_turns {J : It} {n : Nat} {G : Hp → Prop} {Y : Nat → Hp → V → Hp → Prop} (w : L2.Walk J n G Y) {Bd : (Hp → Prop) → V → Hp → Prop} {H0 : Hp} {Qd : Hp → Prop} (Pv : Nat → Hp → Prop) (h0 : Pv 0 H0) (hG : ∀ i H, i ≤ n → Pv i H → G H)
    (hs : ∀ i x H H', i < n → Pv i H → Y i H x H' → Bd (Pv (i + 1)) x H') (hd : ∀ H, Pv n H → Qd H) :
    ∃ W : Nat → Nat → Hp → Prop, (∃ m, W 0 m H0) ∧ ∀ i m H, W i m H → (J.stop i H ∧ Qd H) ∨ (J.go i H ∧ ∃ Nx : Hp → Prop, (∀ H', Nx H' → ∃ m', m' < m ∧ W (i + 1) m' H') ∧ ∀ x H', J.yld i H x H' → Bd Nx x H') := by
  refine ⟨fun i m H => m = n - i ∧ i ≤ n ∧ Pv i H, ⟨n, rfl, Nat.zero_le _, h0⟩, fun i m H ⟨em, hi, p⟩ => ?_⟩
  subst em
  have g := hG i H hi p
  by_cases lt : i < n
  · exact .inr ⟨w.goes i H lt g, Pv (i + 1), fun H' p' => ⟨n - (i + 1), by omega, rfl, lt, p'⟩, fun x H' y => hs i x H H' lt p (w.yields i H x H' lt g y)⟩
  · have e : i = n := by omega
    subst e
    exact .inl ⟨w.stops H g, hd H p⟩
/-- a if c else b, as a test -/
def tCond (tc ta tb : TT) : TT := fun σ H Q => tc σ H fun z H1 => if z = true then ta σ H1 Q else tb σ H1 Q
theorem pt_cond {X : Cx} {c a b : Expr} {pos : Pos} {tc ta tb : TT} (hc : PT X c tc) (ha : PT X a ta) (hb : PT X b tb) : PT X (.IfExp c a b pos) (tCond tc ta tb) := by
  refine ⟨fun pins s σ H Q I h => isTrue_IfExp (thn (hc.run pins s σ H _ I h) fun z s1 ⟨H1, I1, q1⟩ => ?_)⟩
  cases z with
  | true => exact ha.run pins s1 σ H1 Q I1 q1
  | false => exact hb.run pins s1 σ H1 Q I1 q1
end Ft

set_option Elab.async false
set_option linter.all false
set_option maxRecDepth 100000
set_option maxHeartbeats 4000000
/-! a set of ints by two clauses -/
namespace Ft
open PySem PySem.Spec PyProof.Rows L2
abbrev twoSet (el ta ia tb ib : Expr) (ca cb : List Expr) (sco : Scope) (at_ : Pos) : Expr := .SetComp el [⟨ta, ia, ca, 0⟩, ⟨tb, ib, cb, 0⟩] sco at_
section
variable {G : Program} {w : World} {A : Around} {Z : Result → Shared → Prop} {el ta ia tb ib : Expr} {ca cb : List Expr} {sco : Scope} {at_ : Pos} {o d : Value} {ev : Env}
/-- the tests of a clause, until one fails -/
abbrev tests (cs : List Expr) (ev : Env) : Sem Bool := forIn cs true fun c r => if r = true then (isTrue c ev (eval c ev) >>= fun z => pure (ForInStep.yield z)) else pure (ForInStep.yield r)
theorem turn_a : compTurn (twoSet el ta ia tb ib ca cb sco at_) 0 o d ev = (standAt ia.pos >>= fun _ => pyNext o >>= fun (n : Option Value) => match n with
    | none => pure (.done .next)
    | some v => letOwnedTupleGo ta o v >>= fun _ => assign ta ev v >>= fun _ => tests ca ev >>= fun z =>
      if z = true then (eval ib ev >>= fun y => standAt ib.pos >>= fun _ => foldedSetIterable ib ev y >>= fun y => holding [y] (pyIter y) >>= fun t => runOwn (.compStart (twoSet el ta ia tb ib ca cb sco at_) 1 t d ev) ev >>= fun _ => again (.compLoop (twoSet el ta ia tb ib ca cb sco at_) 0 o d ev))
      else again (.compLoop (twoSet el ta ia tb ib ca cb sco at_) 0 o d ev)) := by rfl
theorem turn_b : compTurn (twoSet el ta ia tb ib ca cb sco at_) 1 o d ev = (standAt ib.pos >>= fun _ => pyNext o >>= fun (n : Option Value) => match n with
    | none => pure (.done .next)
    | some v => letOwnedTupleGo tb o v >>= fun _ => assign tb ev v >>= fun _ => tests cb ev >>= fun z =>
      if z = true then ((eval el ev >>= fun y => standAt el.pos >>= fun _ => call (.builtin "set.add") [d, y] >>= fun _ => pure ()) >>= fun _ => again (.compLoop (twoSet el ta ia tb ib ca cb sco at_) 1 o d ev))
      else again (.compLoop (twoSet el ta ia tb ib ca cb sco at_) 1 o d ev)) := by rfl
/-- what a raised thing asks -/
abbrev out_ (G : Program) (w : World) (A : Around) (ev : Env) (Z : Result → Shared → Prop) : Value → Shared → Prop := notedBy (model G w) A ev fun x t => Z (.error x) t
theorem loop_b {s : Shared} (I : Nat → Shared → Prop)
    (step : ∀ k s, I k s → wpAny (model G w) A (pyNext o) (fun n s1 => match n with
      | none => Z (.ok .next) s1
      | some v => wpAny (model G w) A (letOwnedTupleGo tb o v) (fun _ s2 => wpAny (model G w) A (assign tb ev v) (fun _ s3 => wpAny (model G w) A (tests cb ev) (fun z s4 =>
          if z = true then wpAny (model G w) A (eval el ev) (fun y s5 => wpAny (model G w) A (call (.builtin "set.add") [d, y]) (fun _ s6 => ∃ j, j < k ∧ I j s6) (out_ G w A ev Z) s5) (out_ G w A ev Z) s4
          else ∃ j, j < k ∧ I j s4) (out_ G w A ev Z) s3) (out_ G w A ev Z) s2) (out_ G w A ev Z) s1) (out_ G w A ev Z) s)
    (k : Nat) (h : I k s) : codeAny (model G w) A (.compLoop (twoSet el ta ia tb ib ca cb sco at_) 1 o d ev) Z s := by
  refine codeAny_loop rfl I (fun k s hI => ?_) k h
  show wpAny _ A ((compTurn (twoSet el ta ia tb ib ca cb sco at_) 1 o d ev).onRaise (fun x => noteFrame x ev >>= fun _ => theTreesLotGoes x)) _ _ s
  refine wpAny_noted ?_
  rw [turn_b]
  refine wpAny_bind (wpAny_standAt (wpAny_bind (wpAny_mono (step k s hI) (fun n s1 q1 => ?_) fun _ _ x => x)))
  cases n with
  | none => exact wpAny_pure q1
  | some v =>
    refine wpAny_bind (wpAny_mono q1 (fun _ s2 q2 => wpAny_bind (wpAny_mono q2 (fun _ s3 q3 => wpAny_bind (wpAny_mono q3 (fun z s4 q4 => ?_) fun _ _ x => x)) fun _ _ x => x)) fun _ _ x => x)
    cases z with
    | false => exact wpAny_pure ⟨rfl, q4⟩
    | true => exact wpAny_bind (wpAny_bind (wpAny_mono q4 (fun y s5 q5 => wpAny_bind (wpAny_standAt (wpAny_bind (wpAny_mono q5 (fun _ s6 q6 => wpAny_pure (wpAny_pure ⟨rfl, q6⟩)) fun _ _ x => x)))) fun _ _ x => x))
theorem loop_a {s : Shared} (same : ∀ y, foldedSetIterable ib ev y = pure y) (I : Nat → Shared → Prop)
    (step : ∀ k s, I k s → wpAny (model G w) A (pyNext o) (fun n s1 => match n with
      | none => Z (.ok .next) s1
      | some v => wpAny (model G w) A (letOwnedTupleGo ta o v) (fun _ s2 => wpAny (model G w) A (assign ta ev v) (fun _ s3 => wpAny (model G w) A (tests ca ev) (fun z s4 =>
          if z = true then wpAny (model G w) A (eval ib ev) (fun y s5 => wpAny (model G w) A (pyIter y) (fun t s6 => codeAny (model G w) A (.compStart (twoSet el ta ia tb ib ca cb sco at_) 1 t d ev) (fun r s7 => match r with
            | .ok _ => ∃ j, j < k ∧ I j s7
            | .error _ => False) s6) (out_ G w A ev Z) s5) (out_ G w A ev Z) s4
          else ∃ j, j < k ∧ I j s4) (out_ G w A ev Z) s3) (out_ G w A ev Z) s2) (out_ G w A ev Z) s1) (out_ G w A ev Z) s)
    (k : Nat) (h : I k s) : codeAny (model G w) A (.compLoop (twoSet el ta ia tb ib ca cb sco at_) 0 o d ev) Z s := by
  refine codeAny_loop rfl I (fun k s hI => ?_) k h
  show wpAny _ A ((compTurn (twoSet el ta ia tb ib ca cb sco at_) 0 o d ev).onRaise (fun x => noteFrame x ev >>= fun _ => theTreesLotGoes x)) _ _ s
  refine wpAny_noted ?_
  rw [turn_a]
  refine wpAny_bind (wpAny_standAt (wpAny_bind (wpAny_mono (step k s hI) (fun n s1 q1 => ?_) fun _ _ x => x)))
  cases n with
  | none => exact wpAny_pure q1
  | some v =>
    refine wpAny_bind (wpAny_mono q1 (fun _ s2 q2 => wpAny_bind (wpAny_mono q2 (fun _ s3 q3 => wpAny_bind (wpAny_mono q3 (fun z s4 q4 => ?_) fun _ _ x => x)) fun _ _ x => x)) fun _ _ x => x)
    cases z with
    | false => exact wpAny_pure ⟨rfl, q4⟩
    | true =>
      refine wpAny_bind (wpAny_mono q4 (fun y s5 q5 => wpAny_bind (wpAny_standAt (wpAny_bind (wpAny_of_eq (same y) (wpAny_bind (wpAny_holding (wpAny_mono q5 (fun t s6 q6 => wpAny_bind (wpAny_runOwn ?_)) fun _ _ x => x)))))))  fun _ _ x => x)
      rw [Around.mark_none]
      refine codeAny_mono q6 fun r s7 q7 => ?_
      cases r with
      | error _ => exact q7.elim
      | ok _ =>
        first
          | exact wpAny_pure ⟨rfl, q7⟩
          | exact wpAny_bind (wpAny_pure (wpAny_pure ⟨rfl, q7⟩))
theorem start_b {s : Shared} (go : codeAny (model G w) A (.compLoop (twoSet el ta ia tb ib ca cb sco at_) 1 o d ev) Z s)
    (go2 : wpAny (model G w) A (pyIter o) (fun t s1 => codeAny (model G w) A (.compLoop (twoSet el ta ia tb ib ca cb sco at_) 1 t d ev) Z s1) (out_ G w A ev Z) s) :
    codeAny (model G w) A (.compStart (twoSet el ta ia tb ib ca cb sco at_) 1 o d ev) Z s := by
  refine codeAny_of_tree ?_
  show wpAny _ _ ((compStart (twoSet el ta ia tb ib ca cb sco at_) 1 o d ev).onRaise (fun x => noteFrame x ev >>= fun _ => standAt theWindowsPlace)) _ _ s
  refine wpAny_notedAt ?_
  unfold compStart
  show wpAny _ _ (ask >>= _) _ _ s
  refine wpAny_bind (wpAny_askSetting (wpAny_ite ?_))
  split
  case isTrue =>
    first
      | exact wpAny_pure (And.intro rfl go)
      | exact wpAny_bind (wpAny_pure (wpAny_pure (And.intro rfl go)))
  case isFalse =>
    refine wpAny_bind (wpAny_rule (wpAny_bind ?_))
    show wpAny _ _ (standAt ib.pos) _ _ s
    exact wpAny_standAt (wpAny_bind (wpAny_mono go2 (fun t s1 q => wpAny_pure (And.intro rfl q)) fun _ _ x => x))
end
end Ft

set_option Elab.async false
set_option linter.all false
set_option maxRecDepth 100000
set_option maxHeartbeats 4000000
namespace Ft
open PySem PySem.Spec PyProof.Rows L2
theorem put_ok {X : Cx} {pins : List (Addr × Obj)} {σ : L2.St} {H : Hp} {s : Shared} {E : Value → Shared → Prop} {D : Addr} {S : Int → Bool} {n : Nat} {k : Int} {tk : Tok} {Q : Value → Shared → Prop} (I : Inv X pins σ H s) (hD : H D = some (SetO X.w D S n)) (room : n + 1 < scanBound)
    (go : ∀ t, Inv X pins σ (upd H D (SetO X.w D (fun j => S j || decide (j = k)) (if S k = true then n else n + 1))) t → Q .none t) : wpAny (model X.prog X.w) X.A (call (.builtin "set.add") [.ref D, .int k tk]) Q E s := by
  refine setR_add (setO_get I hD) room fun h' sb new => go _ ?_
  obtain ⟨u, _, _, _, hu, _⟩ := id new
  exact I.write (e := D) (t' := s.toks + 1) (by rw [hD]; trivial) (.inl rfl) (fun b x hb hx => (sb.2 b hb).trans hx) ⟨u, hu⟩ (setO_new new)
/-- {el for ta in ia if .. for tb in ib if ..}, ints: D the new set -/
def tSet2 (w : World) (wi : TI) (ga : TG) (tca : TT) (wj : TI) (gb : TG) (tcb : TT) (te : TE) (all inn : List Nat) : TE := fun σ H Q => wi σ H fun J Ha => ∀ D, Ha D = none → ∃ W : Nat → Nat → Hp → Prop, (∃ m, W 0 m (upd Ha D (SetO w D (fun _ => false) 0))) ∧ ∀ i m Hb, W i m Hb →
  (J.stop i Hb ∧ Q (.ref D) Hb) ∨ (J.go i Hb ∧ ∃ N : Hp → Prop, (∀ Hc, N Hc → ∃ m', m' < m ∧ W (i + 1) m' Hc) ∧ ∀ x Hc, J.yld i Hb x Hc → ga x (wipe σ all) Hc fun σa Hd => wipe σa all = wipe σ all ∧ tca σa Hd fun z He =>
    if z = true then wj σa He fun K1 Hf => ∃ U : Nat → Nat → Hp → Prop, (∃ m, U 0 m Hf) ∧ ∀ j k Hg, U j k Hg →
      (K1.stop j Hg ∧ N Hg) ∨ (K1.go j Hg ∧ ∃ M : Hp → Prop, (∀ Hh, M Hh → ∃ k', k' < k ∧ U (j + 1) k' Hh) ∧ ∀ y Hh, K1.yld j Hg y Hh → gb y (wipe σa inn) Hh fun σb Hi => wipe σb inn = wipe σa inn ∧ tcb σb Hi fun z Hj =>
        if z = true then te σb Hj fun v Hk => ∃ (c : Int) (S : Int → Bool) (n : Nat), v = .int c ∧ Hk D = some (SetO w D S n) ∧ n + 1 < scanBound ∧ M (upd Hk D (SetO w D (fun j => S j || decide (j = c)) (if S c = true then n else n + 1))) else M Hj)
    else N He)
section
variable {X : Cx}
abbrev InBlk (X : Cx) (sco : Scope) (P : Cx → Prop) : Prop := ∀ (s : Shared) (H : Hp) (C : Addr) (cl : List (Str × Addr)) (fp : List Addr), P (X.blk s H sco (compEnvC sco cl C X.env) fp)
theorem set2_core {pins : List (Addr × Obj)} {s : Shared} {σ : L2.St} {H : Hp} {Q : VK} {el ta ia tb ib : Expr} {ca cb : List Expr} {sco : Scope} {own : List (Str × Nat)} {inn : List Nat} {at_ at2 : Pos} {wi wj : TI} {ga gb : TG} {tca tcb : TT} {te : TE} {use : Option (Value → Sem Unit)} {Qf : Value → Shared → Prop}
    (calm : X.calm = true) (nd : X.N.Nodup) (I : Inv X pins σ H s) (pi : PI X ta ia wi) (ok : BlkOk X.N X.env.scope sco own) (sub : ∀ i ∈ inn, i ∈ own.map (·.2)) (pga : InBlk X sco fun Y => PG Y ta ga) (pta : InBlk X sco fun Y => PTs Y ca tca) (pib : InBlk X sco fun Y => PI Y tb ib wj) (pgb : InBlk X sco fun Y => PG Y tb gb) (ptb : InBlk X sco fun Y => PTs Y cb tcb)
    (pel : InBlk X sco fun Y => PE Y el te) (fa : ∀ x, foldedSetIterable ia X.env x = pure x) (fb : ∀ env x, foldedSetIterable ib env x = pure x) (h : tSet2 X.w wi ga tca wj gb tcb te (own.map (·.2)) inn σ H Q)
    (back : ∀ D C t m Ht, Inv X pins σ Ht t → Q (.ref D) Ht → t.heap.Ns C m → FpOk X pins Ht C → compPost (model X.prog X.w) X.A X.xe use Qf (.ref D) C (.ok .next) t) :
    wpAny (model X.prog X.w) X.A (comprehension (twoSet el ta ia tb ib ca cb sco at_) sco X.env at2 (newSet (.type "set")) false (eval ia X.env) use) Qf X.xe s := by
  have cells : ∀ y ∈ sco.names, y.2 = .free → ∃ c, X.env.cells.lookup y.1 = some c := fun y hy e => (ok.free y hy e).elim (fun k => I.ok.has _ (.inl k)) (fun k => I.ok.has _ (.inr k))
  refine wpAny_comprehension_free (use := use) rfl fa (closure_ok cells) ok.kind (fun y hy e => by rw [ok.uniq y hy, e]) (thn (pi.run pins s σ H _ I h) fun xv s1 hx => thn hx fun itv s2 h2 => ?_)
  obtain ⟨it, fp, tn, J, Ha, e, Ia, T, sta, fpa, q⟩ := h2
  subst e
  refine PpSet.newSet_ok (newEnv_comp ?_)
  obtain ⟨D, eD⟩ : ∃ D, s2.heap.objs.size = D := ⟨_, rfl⟩
  have free : Ha D = none := Ia.hok.fresh (Nat.le_of_eq eD)
  obtain ⟨W, ⟨m0, w0⟩, turn⟩ := q D free
  obtain ⟨s3, es3⟩ : ∃ s3 : Shared, ({ s2 with heap := s2.heap.push { cls := .type "set", dict := none, data := .set #[] 0 (.fresh 0 0 (!X.w.params.followText "set-order")) } } : Shared) = s3 := ⟨_, rfl⟩
  have I3 : Inv X pins σ (upd Ha D (SetO X.w D (fun _ => false) 0)) s3 := by
    subst es3 eD
    exact Ia.laid (t' := s2.toks) (fun b o e => Heap.get?_push_of_some _ e) (Nat.le_refl _) (setO_new (setR_fresh X.w))
  have push3 : s3.heap = s2.heap.push { cls := .type "set", dict := none, data := .set #[] 0 (.fresh 0 0 (!X.w.params.followText "set-order")) } := by rw [← es3]
  have below : ∀ b ∈ fp, b < s2.heap.objs.size := fun b hb => by
    obtain ⟨_, e, _⟩ := T.obj _ _ sta b hb
    exact Heap.lt_size e
  have fp3 : ∀ b ∈ fp, FpOk X pins (upd Ha D (SetO X.w D (fun _ => false) 0)) b ∧ b < s3.heap.objs.size := fun b hb => by
    have lt := below b hb
    refine ⟨⟨by rw [upd_ne (by rw [← eD]; exact Nat.ne_of_lt lt)]; exact (fpa b hb).1, (fpa b hb).2⟩, ?_⟩
    rw [push3, Heap.size_push]
    exact Nat.lt_succ_of_lt lt
  have st3 : tn 0 s3.heap := T.keep _ _ _ sta fun b _ o e => by rw [push3]; exact Heap.get?_push_of_some _ e
  have I4 := block_start I3 ok nd fp3
  obtain ⟨cl, ecl⟩ : ∃ cl, cellsFrom (s3.heap.objs.size + 1) sco.names (cloFrom X.env.cells sco.names []) = cl := ⟨_, rfl⟩
  rw [ecl] at I4
  have pga := pga s3 (upd Ha D (SetO X.w D (fun _ => false) 0)) s3.heap.objs.size cl fp
  have pta := pta s3 (upd Ha D (SetO X.w D (fun _ => false) 0)) s3.heap.objs.size cl fp
  have pib := pib s3 (upd Ha D (SetO X.w D (fun _ => false) 0)) s3.heap.objs.size cl fp
  have pgb := pgb s3 (upd Ha D (SetO X.w D (fun _ => false) 0)) s3.heap.objs.size cl fp
  have ptb := ptb s3 (upd Ha D (SetO X.w D (fun _ => false) 0)) s3.heap.objs.size cl fp
  have pel := pel s3 (upd Ha D (SetO X.w D (fun _ => false) 0)) s3.heap.objs.size cl fp
  have none3 : ∀ b ∈ fp, (upd Ha D (SetO X.w D (fun _ => false) 0)) b = none := fun b hb => (fp3 b hb).1.1
  rw [eD, es3, ecl]
  obtain ⟨ev, eev⟩ : ∃ ev, compEnvC sco cl s3.heap.objs.size X.env = ev := ⟨_, rfl⟩
  have loc : ev.locals = s3.heap.objs.size := by
    subst eev
    rfl
  rw [eev] at I4 pga pta pib pgb ptb pel
  obtain ⟨H3, eH3⟩ : ∃ H3, upd Ha D (SetO X.w D (fun _ => false) 0) = H3 := ⟨_, rfl⟩
  rw [eH3] at I3 I4 pga pta pib pgb ptb pel w0 none3 fp3
  obtain ⟨s4, es4⟩ : ∃ s4 : Shared, ({ s3 with heap := pushCells (s3.heap.push { cls := .type "dict", data := .dict #[] }) sco.names } : Shared) = s4 := ⟨_, rfl⟩
  rw [es4] at I4
  have st4 : tn 0 s4.heap := T.keep _ _ _ st3 fun b _ o e => by rw [← es4]; exact pushCells_keeps _ _ _ _ (Heap.get?_push_of_some _ e)
  have calmF : ∀ {σt : L2.St} {Ht : Hp} {t : Shared}, Inv (X.blk s3 H3 sco ev fp) [] σt Ht t → (∀ b ∈ fp, Ht b = none) → ∀ b ∈ fp, FpOk (X.blk s3 H3 sco ev fp) [] Ht b := by
    intro σt Ht t It none b hb
    refine ⟨none b hb, (It.ok.exf b hb).1, It.ok.exfs b hb, .inl hb, (fun x c e => (It.ok.exf b hb).2 x c e), fun p hp => ?_⟩
    have : p ∈ ([] : List (Addr × Obj)) ++ [] := hp
    simp at this
  suffices z : codeAny (model X.prog X.w) X.A (.compStart (twoSet el ta ia tb ib ca cb sco at_) 0 (.ref it) (.ref D) ev) (compPost (model X.prog X.w) X.A X.xe use Qf (.ref D) s3.heap.objs.size) s4 by
    rw [← es4, ← eev] at z
    exact z
  obtain ⟨vs, evs⟩ : ∃ vs, own.map (·.2) = vs := ⟨_, rfl⟩
  rw [evs] at turn sub I4
  have loop : codeAny (model X.prog X.w) X.A (.compLoop (twoSet el ta ia tb ib ca cb sco at_) 0 (.ref it) (.ref D) ev) (compPost (model X.prog X.w) X.A X.xe use Qf (.ref D) s3.heap.objs.size) s4 := by
    refine loop_a (fb ev) (fun k t => ∃ i Ht, Inv (X.blk s3 H3 sco ev fp) [] (wipe σ vs) Ht t ∧ tn i t.heap ∧ (∀ b ∈ fp, Ht b = none) ∧ W i k Ht) ?_ m0 ⟨0, H3, I4, st4, none3, w0⟩
    rintro k s5 ⟨i, H5, I5, st5, n5, w5⟩
    rcases turn i k H5 w5 with ⟨stop, over⟩ | ⟨go, N, less, step⟩
    · refine thnF (T.done (X.blk s3 H3 sco ev fp) rfl rfl rfl calm i [] s5 _ H5 (fun _ _ => False) I5 (calmF I5 n5) st5 stop) fun r s6 ⟨er, I6⟩ => ?_
      subst er
      have I7 : Inv X pins σ H5 s6 := I3.call' (ch := fp) I6.os I6.base I6.hok I6.bare fun b hb => by
        obtain ⟨⟨_, f1, f2, f3, f4, f5⟩, _⟩ := fp3 b hb
        exact ⟨f3, f1, f4, f5⟩
      have freeC : H5 s3.heap.objs.size = none := by
        rw [← loc]
        exact I6.free
      obtain ⟨m, hm, _⟩ := I6.loc
      have hm : s6.heap.Ns ev.locals m := hm
      rw [loc] at hm
      exact back D s3.heap.objs.size s6 m H5 I7 over hm (I3.fpOk (Nat.le_refl _) freeC)
    · refine thnF (T.item (X.blk s3 H3 sco ev fp) rfl rfl rfl calm i [] s5 _ H5 (fun _ _ => False) I5 (calmF I5 n5) st5 go) fun r s6 ⟨u, er, h6⟩ => ?_
      subst er
      refine thnF h6 fun _ s7 ⟨x, H7, I7, r7, y7, st7, n7⟩ => ?_
      have I7p := I7.pinned (calmF I7 n7) (T.obj _ _ st7)
      refine thnF (pga.run _ s7 _ H7 x u _ I7p r7 (step x H7 y7)) fun _ s8 ⟨σ8, H8, I8, w8, q8⟩ => thnF (pta.run _ s8 σ8 H8 _ I8 q8) fun z s9 ⟨H9, I9, q9⟩ => ?_
      have len8 : (wipe σ vs).length = σ8.length := by rw [← w8, wipe_length]
      have know8 : ∀ (j : Nat) v, (wipe σ vs)[j]? = some (some v) → σ8[j]? = some (some v) := fun j v e => by
        rw [← w8] at e
        exact (wipe_some e).1
      have knowIn : ∀ (j : Nat) v, (wipe σ vs)[j]? = some (some v) → (wipe σ8 inn)[j]? = some (some v) := fun j v e => by
        rw [← w8] at e
        obtain ⟨e1, off⟩ := wipe_some e
        rw [wipe_out fun z => off (sub j z)]
        exact e1
      have fin : ∀ {σt : L2.St} {t : Shared} {Ht : Hp}, Inv (X.blk s3 H3 sco ev fp) ([] ++ pinsAt fp s7.heap) σt Ht t → (wipe σ vs).length = σt.length → (∀ (j : Nat) v, (wipe σ vs)[j]? = some (some v) → σt[j]? = some (some v)) → N Ht → ∃ m, m < k ∧ ∃ i Hu, Inv (X.blk s3 H3 sco ev fp) [] (wipe σ vs) Hu t ∧ tn i t.heap ∧ (∀ b ∈ fp, Hu b = none) ∧ W i m Hu := by
        intro σt t Ht It hlen hknow hN
        obtain ⟨m, lt, wm⟩ := less Ht hN
        have pinned : ∀ b ∈ fp, ∀ o, s7.heap.get? b = some o → t.heap.get? b = some o ∧ Ht b = none := fun b hb o e => by
          have z := It.pin (b, o) (List.mem_append_right _ (List.mem_append_right _ (mem_pinsAt hb e)))
          exact ⟨z.1, z.2.1⟩
        refine ⟨m, lt, i + 1, Ht, (It.unpinned (pins := [])).weak hlen hknow, T.keep _ _ _ st7 fun b hb o e => (pinned b hb o e).1, fun b hb => ?_, wm⟩
        obtain ⟨o, e, _⟩ := T.obj _ _ st7 b hb
        exact (pinned b hb o e).2
      cases z with
      | false =>
        simp only [Bool.false_eq_true, if_false] at q9 ⊢
        exact fin I9 len8 know8 q9
      | true =>
        simp only [if_true] at q9 ⊢
        refine thnF (pib.run _ s9 σ8 H9 _ I9 q9) fun xv s10 hx => thnF hx fun itv s11 h11 => ?_
        obtain ⟨it1, fp1, tn1, K1, Hf, ee, If, T1, stf, fpf, U, ⟨m1, u0⟩, turn1⟩ := h11
        subst ee
        have calmG : ∀ {Ht : Hp}, (∀ b ∈ fp1, Ht b = none) → ∀ b ∈ fp1, FpOk (X.blk s3 H3 sco ev fp) ([] ++ pinsAt fp s7.heap) Ht b := fun none b hb => ⟨none b hb, (fpf b hb).2⟩
        have inner : codeAny (model X.prog X.w) X.A (.compLoop (twoSet el ta ia tb ib ca cb sco at_) 1 (.ref it1) (.ref D) ev) (fun r t => match r with
            | .ok _ => ∃ m, m < k ∧ ∃ i Hu, Inv (X.blk s3 H3 sco ev fp) [] (wipe σ vs) Hu t ∧ tn i t.heap ∧ (∀ b ∈ fp, Hu b = none) ∧ W i m Hu
            | .error _ => False) s11 := by
          refine loop_b (fun kk t => ∃ j Ht, Inv (X.blk s3 H3 sco ev fp) ([] ++ pinsAt fp s7.heap) (wipe σ8 inn) Ht t ∧ tn1 j t.heap ∧ (∀ b ∈ fp1, Ht b = none) ∧ U j kk Ht) ?_ m1 ⟨0, Hf, If.weak (wipe_length _ _) (fun j v e => (wipe_some e).1), stf, (fun b hb => (fpf b hb).1), u0⟩
          rintro kk s12 ⟨j, H12, I12, st12, n12, u12⟩
          rcases turn1 j kk H12 u12 with ⟨stop1, over1⟩ | ⟨go1, M, less1, step1⟩
          · refine thnF (T1.done (X.blk s3 H3 sco ev fp) rfl rfl rfl calm j _ s12 (wipe σ8 inn) H12 (fun _ _ => False) I12 (calmG n12) st12 stop1) fun r s13 ⟨er, I13⟩ => ?_
            subst er
            exact fin I13 (len8.trans (wipe_length σ8 inn).symm) knowIn over1
          · refine thnF (T1.item (X.blk s3 H3 sco ev fp) rfl rfl rfl calm j _ s12 (wipe σ8 inn) H12 (fun _ _ => False) I12 (calmG n12) st12 go1) fun r s13 ⟨u1, er, h13⟩ => ?_
            subst er
            refine thnF h13 fun _ s14 ⟨x1, H14, I14, r14, y14, st14, n14⟩ => ?_
            have I14p := I14.pinned (calmG n14) (T1.obj _ _ st14)
            refine thnF (pgb.run _ s14 (wipe σ8 inn) H14 x1 u1 _ I14p r14 (step1 x1 H14 y14)) fun _ s15 ⟨σ15, H15, I15, w15, q15⟩ => thnF (ptb.run _ s15 σ15 H15 _ I15 q15) fun z1 s16 ⟨H16, I16, q16⟩ => ?_
            have fin1 : ∀ {t : Shared} {Ht : Hp}, Inv (X.blk s3 H3 sco ev fp) (([] ++ pinsAt fp s7.heap) ++ pinsAt fp1 s14.heap) σ15 Ht t → M Ht → ∃ m, m < kk ∧ ∃ j Hu, Inv (X.blk s3 H3 sco ev fp) ([] ++ pinsAt fp s7.heap) (wipe σ8 inn) Hu t ∧ tn1 j t.heap ∧ (∀ b ∈ fp1, Hu b = none) ∧ U j m Hu := by
              intro t Ht It hM
              obtain ⟨m, lt, um⟩ := less1 Ht hM
              have pinned : ∀ b ∈ fp1, ∀ o, s14.heap.get? b = some o → t.heap.get? b = some o ∧ Ht b = none := fun b hb o e => by
                have z := It.pin (b, o) (List.mem_append_right _ (List.mem_append_right _ (mem_pinsAt hb e)))
                exact ⟨z.1, z.2.1⟩
              refine ⟨m, lt, j + 1, Ht, It.unpinned.weak (by rw [← w15, wipe_length]) (fun j v e => by rw [← w15] at e; exact (wipe_some e).1), T1.keep _ _ _ st14 fun b hb o e => (pinned b hb o e).1, fun b hb => ?_, um⟩
              obtain ⟨o, e, _⟩ := T1.obj _ _ st14 b hb
              exact (pinned b hb o e).2
            cases z1 with
            | false =>
              simp only [Bool.false_eq_true, if_false] at q16 ⊢
              exact fin1 I16 q16
            | true =>
              simp only [if_true] at q16 ⊢
              refine thnF (pel.run _ s16 σ15 H16 _ I16 q16) fun v s17 ⟨yv, H17, I17, r17, cc, S0, n0, ey, hD17, room, hM⟩ => ?_
              subst ey
              obtain ⟨tk, rfl⟩ := r17
              exact put_ok (X := X.blk s3 H3 sco ev fp) I17 hD17 room fun t It => fin1 It hM
        exact start_b inner (T1.self X.A 0 _ _ _ stf inner)
  exact PpSet.codeAny_compStart_set loop (T.self X.A 0 _ _ _ st4 loop)
theorem pe_set2 {el ta ia tb ib : Expr} {ca cb : List Expr} {sco : Scope} {own : List (Str × Nat)} {inn : List Nat} {at_ : Pos} {wi wj : TI} {ga gb : TG} {tca tcb : TT} {te : TE} (calm : X.calm = true) (nd : X.N.Nodup) (pi : PI X ta ia wi) (ok : BlkOk X.N X.env.scope sco own) (sub : ∀ i ∈ inn, i ∈ own.map (·.2))
    (pga : InBlk X sco fun Y => PG Y ta ga) (pta : InBlk X sco fun Y => PTs Y ca tca) (pib : InBlk X sco fun Y => PI Y tb ib wj) (pgb : InBlk X sco fun Y => PG Y tb gb) (ptb : InBlk X sco fun Y => PTs Y cb tcb) (pel : InBlk X sco fun Y => PE Y el te)
    (fa : ∀ x, foldedSetIterable ia X.env x = pure x := by intro _; rfl) (fb : ∀ env x, foldedSetIterable ib env x = pure x := by intro _ _; rfl) : PE X (twoSet el ta ia tb ib ca cb sco at_) (tSet2 X.w wi ga tca wj gb tcb te (own.map (·.2)) inn) := by
  refine ⟨fun pins s σ H Q I h => ?_⟩
  rw [PpSet.eval_SetComp]
  refine set2_core calm nd I pi ok sub pga pta pib pgb ptb pel fa fb h fun D C t m Ht It q hm fc => ⟨m, hm, fun h'' sb => ?_⟩
  obtain ⟨f0, f1, _, f3, f4, f5⟩ := fc
  exact ⟨.ref D, Ht, It.turned (t' := t.toks) (fun b o hb e => (sb.2 b hb).trans e) f0 f1 f3 f4 f5, rfl, q⟩
end
end Ft

set_option Elab.async false
set_option linter.all false
set_option maxRecDepth 100000
set_option maxHeartbeats 8000000
namespace Ft
open PySem PySem.Spec PyProof.Rows L2
theorem piece_lt' {C : Chart} {a b : Nat} (ha : a < C.n) (h : b ∈ pieceOf C a) : b < C.n := by
  unfold pieceOf at h
  by_cases hw : a ∈ C.wished
  · rw [if_pos hw] at h
    rw [List.mem_singleton.mp h]
    exact ha
  · rw [if_neg hw] at h
    exact (those_mem.mp h).1
theorem len_of_lt' (l : List Nat) (n : Nat) (nd : l.Nodup) (b : ∀ x ∈ l, x < n) : l.length ≤ n := by
  have := nat_nodup_len l (List.range n) nd fun x hx => List.mem_range.mpr (b x hx)
  rwa [List.length_range] at this
section
variable {P : Program} {w : World} {K : PySem.W.Frag} {mg : Str → Option Value} {base : Heap} {ca : Str → Addr}
/-! ### made_standing, of data -/
theorem noPlace_cons {n i : Nat} {d : PyData} {ds : List PyData} : noPlace n i (d :: ds) = if rngD n d = true then noPlace n (i + 1) ds else some i := rfl
theorem standErr_not {n : Nat} {d : PyData} (h : isTup d = false) : standErr n d = some (-1) := by
  cases d <;> first | rfl | cases h
/-- what a function of a map and a standing owes -/
def DueS (K : PySem.W.Frag) (ca : Str → Addr) (H : Hp) (E : XK) (dc ds : PyData) (ok : Chart → List Nat → Prop) : Prop :=
  (∀ x i, mapErr dc = some (x, i) → Raised K ca H E (x, .int i)) ∧ ∀ C, dc = chartD C → C.Ok → (∀ i, standErr C.n ds = some i → Raised K ca H E ("BadStanding", .int i)) ∧ ∀ S, ds = lotD S → (∀ x ∈ S, x < C.n) → 1 ≤ S.length → S.length ≤ 3 → ok C S
def spX_made_standing (K : PySem.W.Frag) (ca : Str → Addr) : Sp := fun vs H Q E => ∃ (vc vt : V) (dc ds : PyData), vs = [vc, vt] ∧ Dp K H vc dc ∧ Dp K H vt ds ∧ DueS K ca H E dc ds fun C S => ∀ H', Same H H' → Q vt H'
theorem cal_made_standing (T : Txt mg) (D : Def K mg "made_standing" s_made_standing) (m_MOST_THREADS : MgI mg "MOST_THREADS" 3) (e_BadStanding : Er P w K mg base ca "BadStanding") (c_made_map : CalX P w K mg base 5 "made_map" (spX_made_map K ca)) (c_place_fits : Cal P w K mg base 3 "place_fits" (sp_place_fits K)) : CalX P w K mg base 6 "made_standing" (spX_made_standing K ca) := by
  refine calx_of D sc_made_standing (fun _ _ _ _ _ _ us hl => match us, hl with | [_, _], _ => rfl) (fun vs H Q E h => ?_) (fun f cdv A outer s H vs Q E hr h => ?_)
  · obtain ⟨vc, vt, dc, ds, rfl, _⟩ := h
    rfl
  · obtain ⟨vc, vt, dc, ds, rfl, hdc, hds, q1, q2⟩ := h
    refine ⟨_, (pss_cons (ps_expr (pe_x (takes_of rfl rfl rfl rfl) c_made_map hr (by decide) (by rfl) (pa_cons (pv 0) pa_nil)))
      (pss_cons (ps_if (PW.pt (pw_or (pt_not (pt_val (pe_callB (show CallR _ _ (rIsi K) from call_isi) (by rfl) T.isinstance (by decide +kernel) (pa_cons (pv 1) (pa_cons (pe_bltn (v := .ty "tuple") (u := .type "tuple") (by rfl) T.tuple (by decide +kernel) rfl) pa_nil))))) (pw_or1 (pt_not (pt_chain op_le op_le pe_int (pe_callB (show CallR _ _ (rLenS K) from call_lenS) (by rfl) T.len (by decide +kernel) (pa_cons (pv 1) pa_nil)) (pe_globI (n := 3) rfl m_MOST_THREADS)))))) (pss_one (ps_raiseE rfl e_BadStanding hr (by decide) (takes_of rfl rfl rfl rfl) (by rfl) (pa_cons (pe_un un_neg pe_int) pa_nil))) pss_nil)
      (pss_cons (ps_for (passes_of rfl) rfl (show PI _ _ _ (iEnumT K _) from pi_enumT (by rfl) T.enumerate (pa_cons (pv 1) pa_nil)) (show PG _ _ (gTup K 2 _) from pg_tup (by rfl) (pgs_cons (pg_name (i := 2) sc_made_standing.nd rfl (Or.inl rfl)) (pgs_cons (pg_name (i := 3) sc_made_standing.nd rfl (Or.inl rfl)) pgs_nil))) (pss_one (ps_if (pt_not (pt_val (pe_c c_place_fits hr (by decide) (by rfl) (pa_cons (pv 0) (pa_cons (pv 3) pa_nil))))) (pss_one (ps_raiseE rfl e_BadStanding hr (by decide) (takes_of rfl rfl rfl rfl) (by rfl) (pa_cons (pv 2) pa_nil))) pss_nil)))
      (pss_one (ps_ret (pv 1)))))), ?_⟩
    refine ⟨_, rfl, vc, dc, rfl, hdc, fun em c C c' H1 ev ec ok s1 isC' => ?_, fun x i em => q1 x i em⟩
    subst ec ev
    obtain ⟨qe, qo⟩ := q2 C rfl ok
    have hds1 := Dp.same s1 hds
    obtain ⟨c0, ec0, r, wd, ts, hC⟩ := chart_dp hdc
    cases ec0
    refine ⟨_, rfl, _, _, _, _, isTup ds, rfl, .ty "tuple", isi_dp hds1, kit_tup ds, isTup ds, rfl, ?_⟩
    cases e : isTup ds with
    | false =>
      refine iteT (iteT ?_)
      exact ⟨_, rfl, _, rfl, fun dd hdd => qe _ (standErr_not e) dd _ _ (s1.trans (same_upd hdd)) upd_same (.int _)⟩
    | true =>
      obtain ⟨ls, rfl⟩ := isTup_is e
      obtain ⟨t, xs, rfl, hT, hD⟩ := dp_tup hds1
      have len := dpAll_length hD
      refine iteF ?_
      have bad : ¬ (1 ≤ ls.length ∧ ls.length ≤ 3) → standErr C.n (.tuple ls) = some (-1) := fun z => if_neg z
      refine ⟨_, rfl, t, _, rfl, .inr hT, _, _, rfl, rfl, _, rfl, ?_⟩
      by_cases l1 : 1 ≤ ls.length
      · rw [decide_eq_true (show (1 : Int) ≤ ((xs.length : Nat) : Int) by rw [len]; omega)]
        refine iteT ⟨_, _, rfl, rfl, _, rfl, ?_⟩
        by_cases l3 : ls.length ≤ 3
        · show if (!decide (((xs.length : Nat) : Int) ≤ 3)) = true then _ else _
          rw [decide_eq_true (show ((xs.length : Nat) : Int) ≤ 3 by rw [len]; omega)]
          refine iteF ?_
          have er : standErr C.n (.tuple ls) = optI (noPlace C.n 0 ls) := if_pos ⟨l1, l3⟩
          refine ⟨_, rfl, t, _, rfl, hT, for_it walk_enumT (fun i σ H' => ∃ (v2 v3 : Option V), σ = [some (.ref c), some (.ref t), v2, v3] ∧ Same H1 H' ∧ noPlace C.n 0 ls = noPlace C.n i (ls.drop i)) ⟨_, _, rfl, (fun _ _ h => h), rfl⟩ (fun i σ H' _ ⟨_, _, _, s2, _⟩ => Same.sqT s2 hT) ?_ ?_⟩
          · rintro i x σ H2 H3 hi ⟨v2, v3, rfl, s2, eb⟩ ⟨tt, x0, y, rfl, nt, rfl, e1, e2⟩
            obtain ⟨d, hd, dd⟩ := dpAll_get hD e2
            rw [drop_get hd, noPlace_cons] at eb
            cases e1
            have s3 : Same H1 (upd H2 tt (.tup [.int (i : Nat), y])) := s2.trans (same_upd nt)
            refine ⟨tt, _, rfl, .inl (.inl upd_same), rfl, _, _, rfl, _, _, rfl, rfl, ?_⟩
            refine ⟨_, rfl, _, rfl, c, C.n, y, d, r, wd, rfl, (hC.same (s1.trans s3)).top, Dp.same s3 dd, rngD C.n d, rfl, ?_⟩
            cases cr : rngD C.n d with
            | true =>
              rw [cr, if_pos rfl] at eb
              exact iteF ⟨_, _, rfl, s3, eb⟩
            | false =>
              rw [cr, if_neg Bool.false_ne_true] at eb
              refine iteT ?_
              exact ⟨_, rfl, _, rfl, fun dd' hdd => qe i (by rw [er, eb]; rfl) dd' _ _ (s1.trans (s3.trans (same_upd hdd))) upd_same (.int _)⟩
          · rintro σ H2 ⟨v2, v3, rfl, s2, eb⟩
            rw [len, List.drop_length] at eb
            have e0 : standErr C.n (.tuple ls) = none := by rw [er, eb]; rfl
            obtain ⟨S, eS, lt, k1, k3⟩ := standErr_none e0
            exact ⟨_, rfl, qo S eS lt k1 k3 H2 (s1.trans s2)⟩
        · show if (!decide (((xs.length : Nat) : Int) ≤ 3)) = true then _ else _
          rw [decide_eq_false (show ¬ ((xs.length : Nat) : Int) ≤ 3 by rw [len]; omega)]
          refine iteT ?_
          exact ⟨_, rfl, _, rfl, fun dd hdd => qe _ (bad fun z => l3 z.2) dd _ _ (s1.trans (same_upd hdd)) upd_same (.int _)⟩
      · rw [decide_eq_false (show ¬ (1 : Int) ≤ ((xs.length : Nat) : Int) by rw [len]; omega)]
        refine iteF ⟨_, rfl, iteT ?_⟩
        exact ⟨_, rfl, _, rfl, fun dd hdd => qe _ (bad fun z => l1 z.1) dd _ _ (s1.trans (same_upd hdd)) upd_same (.int _)⟩
theorem DueS.valid {K : PySem.W.Frag} {ca : Str → Addr} {H : Hp} {E : XK} {C : Chart} {S : List Nat} {ok : Chart → List Nat → Prop} (o : C.Ok) (lt : ∀ x ∈ S, x < C.n) (l1 : 1 ≤ S.length) (l3 : S.length ≤ 3) (q : ok C S) : DueS K ca H E (chartD C) (lotD S) ok :=
  ⟨fun x i h => (by rw [mapErr_chart o] at h; cases h), fun C' e _ => (by
    have z := chartD_inj e
    subst z
    exact ⟨fun i h => (by rw [standErr_ok lt l1 l3] at h; cases h), fun S' e' _ _ _ => (by
      have z := lotD_inj e'
      subst z
      exact q)⟩)⟩
def sp_made_standing (K : PySem.W.Frag) : Sp := fun vs H Q _ => ∃ (c t : Addr) (C : Chart) (S : List Nat), vs = [.ref c, .ref t] ∧ IsChart K H c C ∧ C.Ok ∧ SqT K H t (S.map vN) ∧ (∀ x ∈ S, x < C.n) ∧ 1 ≤ S.length ∧ S.length ≤ 3 ∧ ∀ H', Same H H' → Q (.ref t) H'
theorem calv_made_standing (c_made_standing : CalX P w K mg base 6 "made_standing" (spX_made_standing K ca)) : Cal P w K mg base 6 "made_standing" (sp_made_standing K) :=
  c_made_standing.valid fun vs H Q E ⟨c, t, C, S, e, isC, ok, hS, lt, l1, l3, q⟩ => ⟨_, _, _, _, e, dp_chart isC, dp_lot hS, .valid ok lt l1 l3 q⟩
/-! ### is_standing -/
/-! ### members -/
noncomputable def membersOf (C : Chart) (S : List Nat) : List Nat := those C.n fun b => ∃ a ∈ S, b ∈ pieceOf C a
def spX_members (K : PySem.W.Frag) (ca : Str → Addr) : Sp := fun vs H Q E => ∃ (vc vt : V) (dc ds : PyData), vs = [vc, vt] ∧ Dp K H vc dc ∧ Dp K H vt ds ∧ DueS K ca H E dc ds fun C S => ∀ q H', Same H H' → SqT K H' q ((membersOf C S).map vN) → Q (.ref q) H'
theorem cal_members (T : Txt mg) (D : Def K mg "members" s_members) (c_made_standing : CalX P w K mg base 6 "made_standing" (spX_made_standing K ca)) (c_piece_table : Cal P w K mg base 5 "piece_table" (sp_piece_table K)) : CalX P w K mg base 7 "members" (spX_members K ca) := by
  refine calx_of D sc_members (fun _ _ _ _ _ _ us hl => match us, hl with | [_, _], _ => rfl) (fun vs H Q E h => ?_) (fun f cdv A outer s H vs Q E hr h => ?_)
  · obtain ⟨vc, vt, dc, ds, rfl, _⟩ := h
    rfl
  · obtain ⟨vc, vt, dc, ds, rfl, hdc, hds, q1, q2⟩ := h
    refine ⟨_, (pss_cons (ps_expr (pe_x (takes_of rfl rfl rfl rfl) c_made_standing hr (by decide) (by rfl) (pa_cons (pv 0) (pa_cons (pv 1) pa_nil))))
      (pss_cons (ps_set (i := 2) sc_members.nd rfl (Or.inr rfl) (pe_c c_piece_table hr (by decide) (by rfl) (pa_cons (pv 0) pa_nil)))
      (pss_one (ps_ret (pe_callTy (show CallR _ _ (rTupleOf K) from call_tupleOf) (by rfl) T.tuple (by decide +kernel) (pa_cons (pe_callB (show CallR _ _ (rSortedSet w) from cr_sortedSet rfl) (by rfl) T.sorted (by decide +kernel) (pa_cons (pe_set2 (own := [("place", 3), ("member", 4)]) (inn := [4]) rfl sc_members.nd (show PI _ _ _ (iTup K _) from pi_tup (pv 1)) (blkOk_by (N := ["chart", "standing", "table", "place", "member"]) (sc := L2.defScope s_members) (by decide +kernel)) (by decide) (fun _ _ _ _ _ => (pg_name (i := 3) sc_members.nd rfl (Or.inl rfl))) (fun _ _ _ _ _ => pts_nil) (fun _ _ _ _ _ => (show PI _ _ _ (iTup K _) from pi_tup (pe_ix (show IxR _ (rIxL K) from ix_list) (pv 2) (pv 3) (fun _ _ => rfl)))) (fun _ _ _ _ _ => (pg_name (i := 4) sc_members.nd rfl (Or.inl rfl))) (fun _ _ _ _ _ => pts_nil) (fun _ _ _ _ _ => (pv 4))) pa_nil)) pa_nil)))))), ?_⟩
    refine ⟨_, rfl, _, rfl, vc, vt, dc, ds, rfl, hdc, hds, q1, fun C ec ok => ⟨(q2 C ec ok).1, fun S es inS l1 l3 H1 s1 => ?_⟩⟩
    have q := (q2 C ec ok).2 S es inS l1 l3
    subst ec es
    obtain ⟨c, rfl, hC⟩ := chart_dp hdc
    obtain ⟨t, rfl, hS⟩ := lot_dp hds
    have n60 := ok.n60
    refine ⟨_, rfl, c, C, rfl, hC.same s1, ok, fun tb rows H2 s2 _ hT hP => ?_⟩
    have s12 := s1.trans s2
    have hS2 := Same.sqT s12 hS
    refine ⟨_, rfl, t, rfl, ⟨_, hS2⟩, fun D hD => ?_⟩
    have keep : ∀ {H' : Hp}, Kp [D] H2 H' → Same H2 H' := fun {H'} k b o e' => k b o (fun m => by rw [List.mem_singleton.mp m, hD] at e'; cases e') e'
    refine by_turns (walk_tup (K := K) (a := t) (xs := S.map vN)) (fun i H' => ∃ (Z : Int → Bool) (l : List Nat), Kp [D] H2 H' ∧ H' D = some (SetO w D Z l.length) ∧ l.Nodup ∧ (∀ x ∈ l, x < C.n) ∧ (∀ j, Z j = true ↔ j ∈ iN l) ∧ (∀ b, b ∈ l ↔ ∃ a ∈ S.take i, b ∈ pieceOf C a))
      ⟨_, [], (fun b o x e' => by rw [upd_ne (ne_of_none e' hD)]; exact e'), upd_same, List.nodup_nil, (fun _ h => nomatch h), (fun j => by simp [iN]), (fun b => by simp)⟩ (fun i H' _ ⟨_, _, k, _⟩ => Same.sqT (keep k) hS2) ?_ ?_
    · rintro i x Hx H3 hi ⟨Z, l, k3, hZ, nd, lt, memZ, meml⟩ ⟨rfl, hx⟩
      obtain ⟨a, ha, rfl⟩ := get_map hx
      have han := inS a (List.mem_of_getElem? ha)
      obtain ⟨row, hrow⟩ : ∃ t, rows[a]? = some t := ⟨_, List.getElem?_eq_getElem (by rw [hP.1]; exact han)⟩
      have hT3 := keep k3 _ _ hT
      have hr3 := Same.sqT (keep k3) (hP.2 a row hrow)
      refine ⟨rfl, ?_⟩
      refine ⟨_, rfl, _, rfl, tb, _, _, _, rfl, rfl, .inl (.inl hT3), atI_nat (v := V.ref row) (by rw [List.getElem?_map, hrow]; rfl), row, rfl, ⟨_, hr3⟩, ?_⟩
      refine by_turns (walk_tup (K := K) (a := row) (xs := (pieceOf C a).map vN)) (fun j H' => ∃ (Z : Int → Bool) (l : List Nat), Kp [D] H2 H' ∧ H' D = some (SetO w D Z l.length) ∧ l.Nodup ∧ (∀ x ∈ l, x < C.n) ∧ (∀ j, Z j = true ↔ j ∈ iN l) ∧ (∀ b, b ∈ l ↔ (∃ a ∈ S.take i, b ∈ pieceOf C a) ∨ b ∈ (pieceOf C a).take j))
        ⟨Z, l, k3, hZ, nd, lt, memZ, fun b => by rw [meml b]; simp⟩ (fun j H' _ ⟨_, _, k, _⟩ => Same.sqT (keep k) (hP.2 a row hrow)) ?_ ?_
      · rintro j y Hy H4 hj ⟨Z4, l4, k4, hZ4, nd4, lt4, memZ4, meml4⟩ ⟨rfl, hy⟩
        obtain ⟨b, hb, rfl⟩ := get_map hy
        have hbp := List.mem_of_getElem? hb
        have hbn := piece_lt' han hbp
        have l60 := len_of_lt' l4 C.n nd4 lt4
        refine ⟨rfl, ?_⟩
        have room : l4.length + 1 < scanBound := by
          have : (1000 : Nat) < scanBound := by decide
          omega
        refine ⟨_, rfl, (b : Int), Z4, l4.length, rfl, hZ4, room, ?_⟩
        have kk : ∀ o, Kp [D] H2 (upd H4 D o) := fun o z u nz ez => by
          rw [upd_ne (fun y => nz (by rw [y]; simp))]
          exact k4 z u nz ez
        by_cases hbl : b ∈ l4
        · have hz : Z4 (b : Int) = true := (memZ4 _).mpr (iN_mem.mpr hbl)
          refine ⟨fun j => Z4 j || decide (j = (b : Int)), l4, kk _, by rw [upd_same, hz, if_pos rfl]; rfl, nd4, lt4, fun j' => ?_, fun b' => ?_⟩
          · rw [Bool.or_eq_true, memZ4, decide_eq_true_eq]
            exact ⟨fun h => h.elim id fun e => by rw [e]; exact iN_mem.mpr hbl, .inl⟩
          · rw [meml4 b', take_more hb]
            constructor
            · rintro (h | h)
              · exact .inl h
              · exact .inr (List.mem_append_left _ h)
            · rintro (h | h)
              · exact .inl h
              · rcases List.mem_append.mp h with h | h
                · exact .inr h
                · rw [List.mem_singleton.mp h]
                  exact (meml4 b).mp hbl
        · have hz : Z4 (b : Int) = false := by
            cases e : Z4 (b : Int) with
            | false => rfl
            | true => exact absurd (iN_mem.mp ((memZ4 _).mp e)) hbl
          refine ⟨fun j => Z4 j || decide (j = (b : Int)), l4 ++ [b], kk _, by rw [upd_same, hz, if_neg Bool.false_ne_true, List.length_append]; rfl, ?_, ?_, fun j' => ?_, fun b' => ?_⟩
          · rw [List.nodup_append]
            exact ⟨nd4, by simp, fun x hx y hy z => hbl (by rw [← List.mem_singleton.mp hy, ← z]; exact hx)⟩
          · intro x hx
            rcases List.mem_append.mp hx with hx | hx
            · exact lt4 x hx
            · rw [List.mem_singleton.mp hx]
              exact hbn
          · rw [Bool.or_eq_true, memZ4, decide_eq_true_eq]
            unfold iN
            rw [List.map_append, List.mem_append]
            constructor
            · rintro (h | h)
              · exact .inl h
              · exact .inr (by rw [h]; simp)
            · rintro (h | h)
              · exact .inl h
              · simp at h
                exact .inr h
          · rw [List.mem_append, List.mem_singleton, meml4 b', take_more hb, List.mem_append, List.mem_singleton]
            exact or_assoc
      · rintro H4 ⟨Z4, l4, k4, hZ4, nd4, lt4, memZ4, meml4⟩
        refine ⟨Z4, l4, k4, hZ4, nd4, lt4, memZ4, fun b => ?_⟩
        have e9 : (pieceOf C a).take ((pieceOf C a).map vN).length = pieceOf C a := List.take_of_length_le (by rw [List.length_map]; exact Nat.le_refl _)
        rw [meml4 b, take_more ha, e9]
        constructor
        · rintro (⟨a', h1, h2⟩ | h)
          · exact ⟨a', List.mem_append_left _ h1, h2⟩
          · exact ⟨a, List.mem_append_right _ (List.mem_singleton.mpr rfl), h⟩
        · rintro ⟨a', h1, h2⟩
          rcases List.mem_append.mp h1 with h1 | h1
          · exact .inl ⟨a', h1, h2⟩
          · rw [List.mem_singleton.mp h1] at h2
            exact .inr h2
    rintro H3 ⟨Z, l, k3, hZ, nd, lt, memZ, meml⟩
    rw [List.take_of_length_le (by rw [List.length_map]; exact Nat.le_refl _)] at meml
    have l60 := len_of_lt' l C.n nd lt
    have s3 := keep k3
    refine ⟨D, Z, l.length, rfl, hZ, by omega, fun gs u up mem _ hu => ?_⟩
    obtain ⟨wl, rfl, upw, memw⟩ : ∃ wl : List Nat, gs = iN wl ∧ wl.Pairwise (· < ·) ∧ ∀ x, x ∈ wl ↔ x ∈ l := set_nat up (fun j => by rw [mem j, memZ j, decide_eq_true_eq])
    have e : wl = membersOf C S := those_is upw fun x => by
      rw [memw x, meml x]
      exact ⟨fun ⟨a, h1, h2⟩ => ⟨piece_lt' (inS a h1) h2, a, h1, h2⟩, fun ⟨_, h⟩ => h⟩
    refine ⟨u, _, rfl, .inl ⟨.inl (.inl upd_same), fun tp htp => ?_⟩⟩
    refine q tp _ (s12.trans (s3.trans ((same_upd hu).trans (same_upd htp)))) (.inl (.inl ?_))
    rw [upd_same, ← vN_map, e]
def sp_members (K : PySem.W.Frag) : Sp := fun vs H Q _ => ∃ (c t : Addr) (C : Chart) (S : List Nat), vs = [.ref c, .ref t] ∧ IsChart K H c C ∧ C.Ok ∧ SqT K H t (S.map vN) ∧ (∀ x ∈ S, x < C.n) ∧ 1 ≤ S.length ∧ S.length ≤ 3 ∧ ∀ q H', Same H H' → SqT K H' q ((membersOf C S).map vN) → Q (.ref q) H'
theorem calv_members (c_members : CalX P w K mg base 7 "members" (spX_members K ca)) : Cal P w K mg base 7 "members" (sp_members K) :=
  c_members.valid fun vs H Q E ⟨c, t, C, S, e, isC, ok, hS, lt, l1, l3, q⟩ => ⟨_, _, _, _, e, dp_chart isC, dp_lot hS, .valid ok lt l1 l3 q⟩
end
end Ft

set_option Elab.async false
set_option linter.all false
set_option maxRecDepth 100000
set_option maxHeartbeats 8000000
namespace Ft
open PySem PySem.Spec PyProof.Rows L2
section
variable {P : Program} {w : World} {K : PySem.W.Frag} {mg : Str → Option Value} {base : Heap} {t1 t2 : Tok}
/-! ### _law_map_lot -/
def sp_law_map_lot (K : PySem.W.Frag) : Sp := fun vs H Q _ => ∃ (p l c : Addr) (C : Chart), vs = [.ref p, .ref c] ∧ PoolAt H p l ∧ IsChart K H c C ∧ C.Ok ∧ ∀ (t : Addr) (U : List Nat) (H' : Hp), SqT K H' t (U.map vN) → Upto U C.n → PoolAt H' p l → Kp [p, l] H H' → Q (.ref t) H'
theorem cal_law_map_lot (T : Txt mg) (D : Def K mg "_law_map_lot" s_law_map_lot) (c_law_draw : Cal P w K mg base 2 "_law_draw" sp_law_draw) : Cal P w K mg base 3 "_law_map_lot" (sp_law_map_lot K) := by
  refine cal_of D sc_law_map_lot (fun _ _ _ _ _ _ us hl => match us, hl with | [_, _], _ => rfl) (fun vs H Q E h => ?_) (fun f cdv A outer s H vs Q E hr h => ?_)
  · obtain ⟨p, l, c, C, rfl, _⟩ := h
    rfl
  · obtain ⟨p, l, c, C, rfl, hP, ⟨r, wd, ts, hC⟩, ok, q⟩ := h
    have n60 := ok.n60
    refine ⟨_, (pss_cons (ps_set (i := 2) sc_law_map_lot.nd rfl (Or.inr rfl) (pe_c c_law_draw hr (by decide) (by rfl) (pa_cons (pv 0) (pa_cons pe_int pa_nil))))
      (pss_cons (ps_if (pt_cmpR op_eq (pv 2) pe_int (nomark _)) (pss_one (ps_ret (pe_ifExp (pt_cmpR op_eq (pe_c c_law_draw hr (by decide) (by rfl) (pa_cons (pv 0) (pa_cons pe_int pa_nil))) pe_int (nomark _)) (pe_tup pa_nil) (pe_tupRg rfl (by rfl) T.tuple (prg_1 (by rfl) T.range (pe_ix (show IxR _ (rIxT K) from ix_tup) (pv 1) pe_int (fun _ _ => rfl))))))) pss_nil)
      (pss_one (ps_ret (pe_callTy (show CallR _ _ (rTupleOf K) from call_tupleOf) (by rfl) T.tuple (by decide +kernel) (pa_cons (pe_lc (own := [("a", 3)]) rfl sc_law_map_lot.nd (pi_range1 (by rfl) T.range (pa_cons (pe_ix (show IxR _ (rIxT K) from ix_tup) (pv 1) pe_int (fun _ _ => rfl)) pa_nil)) (blkOk_by (N := ["pool", "chart", "way", "a"]) (sc := L2.defScope s_law_map_lot) (by decide +kernel)) (fun _ _ _ _ _ => (pg_name (i := 3) sc_law_map_lot.nd rfl (Or.inl rfl))) (fun _ _ _ _ _ => pts_one (pt_mid (pt_cond (pt_cmpR op_eq (pv 2) pe_int (nomark _)) (pt_cmpR op_gt (pe_c c_law_draw hr (by decide) (by rfl) (pa_cons (pv 0) (pa_cons pe_int pa_nil))) pe_int (nomark _)) (pt_cmpR op_eq (pe_c c_law_draw hr (by decide) (by rfl) (pa_cons (pv 0) (pa_cons (pe_op op_add pe_int (pv 2)) pa_nil))) pe_int (nomark _))))) (fun _ _ _ _ _ => (pv 3))) pa_nil)))))), ?_⟩
    refine ⟨_, rfl, p, l, 6, rfl, hP, by decide, by decide, fun way H1 hway hP1 k1 => ?_⟩
    have hC1 : ChartAt K H1 c C r wd ts := hC.keep k1 hP.lists
    refine ⟨_, rfl, rfl, _, rfl, ite_any (fun _ => ?_) (fun hw => ?_)⟩
    · refine ⟨_, rfl, p, l, 2, rfl, hP1, by decide, by decide, fun y H2 hy hP2 k2 => ?_⟩
      have hC2 : ChartAt K H2 c C r wd ts := hC1.keep k2 hP1.lists
      refine ⟨rfl, _, rfl, ite_any (fun _ => ?_) (fun _ => ?_)⟩
      · refine ⟨Nat.zero_le _, fun t ht => ?_⟩
        exact q t [] _ (.inl (.inl upd_same)) (Upto.nil _) (hP2.same (same_upd ht)) ((k1.trans k2).trans (Same.kp (same_upd ht)))
      · refine ⟨_, rfl, _, _, _, _, rfl, rfl, hC2.top, rfl, _, rfl, .of_le (by omega) (by omega) (by omega) (by omega), fun t ht => ?_⟩
        exact q t (List.range C.n) _ (.inl (.inl (by rw [upd_same, rgV_nat]))) (upto_range _) (hP2.same (same_upd ht)) ((k1.trans k2).trans (Same.kp (same_upd ht)))
    · refine ⟨_, rfl, _, _, _, _, rfl, rfl, hC1.top, rfl, _, rfl, by omega, by omega, fun e he => ?_⟩
      have epl : e ∉ [p, l] := hP1.free he
      refine lc_range (lo := 0) (n := C.n) (fun i H' => ∃ G : List Nat, Kp [p, l, e] H1 H' ∧ H' e = some (.lst (G.map vN)) ∧ PoolAt H' p l ∧ Upto G i)
        ⟨[], (fun b o x e' => by rw [upd_ne (ne_of_none e' he)]; exact e'), upd_same, hP1.same (same_upd he), Upto.nil 0⟩ ?_ ?_
      · rintro i H4 hi ⟨G, k4, hE, hP4, hG⟩
        have e0 : (0 : Int) + (i : Nat) = (i : Nat) := by omega
        refine ⟨rfl, ?_⟩
        rw [e0]
        refine ⟨fun _ H' => PoolAt H' p l ∧ Kp [p, l] H4 H', ⟨_, rfl, rfl, _, rfl, ite_any (fun _ => ?_) (fun _ => ?_)⟩, ?_⟩
        · exact ⟨_, rfl, p, l, 4, rfl, hP4, by decide, by decide, fun y H5 _ hP5 k5 => ⟨_, _, rfl, rfl, _, rfl, hP5, k5⟩⟩
        · exact ⟨_, rfl, _, rfl, _, _, rfl, rfl, p, l, 1 + way, rfl, hP4, by omega, by omega, fun y H5 _ hP5 k5 => ⟨rfl, _, rfl, hP5, k5⟩⟩
        rintro b H5 ⟨hP5, k5⟩
        have k45 : Kp [p, l, e] H1 H5 := fun b o nb eb => k5 _ _ (fun m => nb (by simp only [List.mem_cons, List.not_mem_nil, or_false] at m ⊢; rcases m with m | m <;> simp [m])) (k4 b o nb eb)
        have hE5 := k5 _ _ epl hE
        refine ite_any (fun _ => ?_) (fun _ => ?_)
        · refine ⟨_, rfl, _, hE5, by rw [List.length_map]; exact small1000 (by have := hG.len; omega), G ++ [i], ?_, by rw [upd_same, List.map_append]; rfl, hP5.set epl, hG.more⟩
          intro b o nb eb
          rw [upd_ne (fun z => nb (by rw [z]; simp))]
          exact k45 b o nb eb
        · exact ⟨G, k45, hE5, hP5, hG.wider⟩
      · rintro H4 ⟨G, k4, hE, hP4, hG⟩
        have k34 : Kp [p, l] H H4 := kp_made k1 he k4
        refine ⟨e, _, rfl, .inl ⟨.inl (.inl hE), fun t ht => ?_⟩⟩
        exact q t G _ (.inl (.inl upd_same)) hG (hP4.same (same_upd ht)) (k34.trans (Same.kp (same_upd ht)))
/-! ### _law_map_standing -/
def sp_law_map_standing (K : PySem.W.Frag) : Sp := fun vs H Q _ => ∃ (p l c : Addr) (C : Chart) (most : Nat), vs = [.ref p, .ref c, vN most] ∧ PoolAt H p l ∧ IsChart K H c C ∧ C.Ok ∧ 0 < C.n ∧ 0 < most ∧ most ≤ 9 ∧ ∀ (t : Addr) (S : List Nat) (H' : Hp), SqT K H' t (S.map vN) → (∀ x ∈ S, x < C.n) → 1 ≤ S.length → S.length ≤ most → PoolAt H' p l → Kp [p, l] H H' → Q (.ref t) H'
theorem cal_law_map_standing (T : Txt mg) (D : Def K mg "_law_map_standing" s_law_map_standing) (c_law_draw : Cal P w K mg base 2 "_law_draw" sp_law_draw) : Cal P w K mg base 3 "_law_map_standing" (sp_law_map_standing K) := by
  refine cal_of D sc_law_map_standing (fun _ _ _ _ _ _ us hl => match us, hl with | [_, _, _], _ => rfl) (fun vs H Q E h => ?_) (fun f cdv A outer s H vs Q E hr h => ?_)
  · obtain ⟨p, l, c, C, most, rfl, _⟩ := h
    rfl
  · obtain ⟨p, l, c, C, most, rfl, hP, ⟨r, wd, ts, hC⟩, ok, n0, m0, m9, q⟩ := h
    have n60 := ok.n60
    refine ⟨_, (pss_cons (ps_set (i := 3) sc_law_map_standing.nd rfl (Or.inl rfl) (pe_lst (pa_cons (pe_c c_law_draw hr (by decide) (by rfl) (pa_cons (pv 0) (pa_cons (pe_ix (show IxR _ (rIxT K) from ix_tup) (pv 1) pe_int (fun _ _ => rfl)) pa_nil))) pa_nil)))
      (pss_cons (ps_for PassesOwn.never rfl (pi_range1 (by rfl) T.range (pa_cons (pe_c c_law_draw hr (by decide) (by rfl) (pa_cons (pv 0) (pa_cons (pv 2) pa_nil))) pa_nil)) (pg_name (i := 4) sc_law_map_standing.nd rfl (Or.inl rfl)) (pss_one (ps_expr (pe_bm PySem.F.plainAttrs_list PySem.F.slot_list_append PySem.F.type_list_append mt_append (pv 3) (pa_cons (pe_mid (pe_ifExp (pt_cmpR op_eq (pe_c c_law_draw hr (by decide) (by rfl) (pa_cons (pv 0) (pa_cons pe_int pa_nil))) pe_int (nomark _)) (pe_ix (show IxR _ (rIxL K) from ix_list) (pv 3) pe_int (fun _ _ => rfl)) (pe_c c_law_draw hr (by decide) (by rfl) (pa_cons (pv 0) (pa_cons (pe_ix (show IxR _ (rIxT K) from ix_tup) (pv 1) pe_int (fun _ _ => rfl)) pa_nil))))) pa_nil)))))
      (pss_one (ps_ret (pe_callTy (show CallR _ _ (rTupleOf K) from call_tupleOf) (by rfl) T.tuple (by decide +kernel) (pa_cons (pv 3) pa_nil)))))), ?_⟩
    refine ⟨_, rfl, _, rfl, _, _, _, _, rfl, rfl, hC.top, rfl, p, l, C.n, rfl, hP, n0, by omega, fun a H1 ha hP1 k1 => ?_⟩
    refine ⟨by show 1 ≤ sizeLine; decide, fun d hd => ?_⟩
    have s2 : Same H1 (upd H1 d (.lst [vN a])) := same_upd hd
    have hD2 : (upd H1 d (.lst [vN a])) d = some (.lst ([a].map vN)) := upd_same
    have dpl : d ∉ [p, l] := hP1.free hd
    have hd0 : H d = none := kp_free k1 dpl hd
    have hP2 := hP1.same s2
    have k2 := k1.trans (Same.kp (ex := [p, l]) s2)
    generalize upd H1 d (.lst [vN a]) = H2 at s2 hD2 hP2 k2
    refine ⟨_, rfl, _, rfl, p, l, most, rfl, hP2, m0, by omega, fun m H3 hm hP3 k3 => ?_⟩
    have hD3 := k3 _ _ dpl hD2
    refine ⟨_, rfl, by omega, by omega, for_range (lo := 0) (n := m) (fun i σ H' => ∃ (S : List Nat) (v4 : Option V), σ = [some (.ref p), some (.ref c), some (vN most), some (.ref d), v4] ∧ PoolAt H' p l ∧ Kp [p, l] H H' ∧ H' d = some (.lst (S.map vN)) ∧ (∀ x ∈ S, x < C.n) ∧ S.length = i + 1)
      ⟨[a], _, rfl, hP3, k2.trans k3, hD3, (fun x hx => by rw [List.mem_singleton.mp hx]; exact ha), rfl⟩ ?_ ?_⟩
    · rintro i σ H4 hi ⟨S, v4, rfl, hP4, k4, hD4, inS, lS⟩
      have hC4 : ChartAt K H4 c C r wd ts := hC.keep k4 hP.lists
      obtain ⟨x0, S0, eS⟩ : ∃ x0 S0, S = x0 :: S0 := by
        cases S with
        | nil => simp at lS
        | cons x0 S0 => exact ⟨x0, S0, rfl⟩
      refine ⟨_, rfl, .inl ⟨rfl, _, .inl (.inl hD4)⟩, ?_⟩
      refine ⟨fun v H' => ∃ x : Nat, v = vN x ∧ x < C.n ∧ PoolAt H' p l ∧ Kp [p, l] H4 H', ⟨_, rfl, p, l, 8, rfl, hP4, by decide, by decide, fun y H5 _ hP5 k5 => ⟨rfl, _, rfl, ite_any (fun _ => ?_) (fun _ => ?_)⟩⟩, ?_⟩
      · exact ⟨_, rfl, d, _, _, _, rfl, rfl, .inl (.inl (k5 _ _ dpl hD4)), atI_nat (j := 0) (v := vN x0) (by rw [eS]; rfl), x0, rfl, inS x0 (by rw [eS]; exact List.mem_cons_self), hP5, k5⟩
      · have hC5 : ChartAt K H5 c C r wd ts := hC4.keep k5 hP4.lists
        exact ⟨_, rfl, _, rfl, _, _, _, _, rfl, rfl, hC5.top, rfl, p, l, C.n, rfl, hP5, n0, by omega, fun x H6 hx hP6 k6 => ⟨x, rfl, hx, hP6, k5.trans k6⟩⟩
      rintro v H5 ⟨x, rfl, hx, hP5, k5⟩
      have hD5 := k5 _ _ dpl hD4
      refine ⟨d, _, _, rfl, rfl, hD5, by rw [List.length_map]; exact small1000 (by omega), S ++ [x], _, rfl, hP5.set dpl, ?_, by rw [upd_same, List.map_append]; rfl, ?_, by rw [List.length_append, lS]; rfl⟩
      · intro b o nb eb
        rw [upd_ne (ne_of_none eb hd0)]
        exact k5 _ _ nb (k4 b o nb eb)
      · intro y hy
        rcases List.mem_append.mp hy with hy | hy
        · exact inS y hy
        · rw [List.mem_singleton.mp hy]
          exact hx
    · rintro σ H4 ⟨S, v4, rfl, hP4, k4, hD4, inS, lS⟩
      refine ⟨_, rfl, d, _, rfl, .inl ⟨.inl (.inl hD4), fun t ht => ?_⟩⟩
      exact q t S _ (.inl (.inl upd_same)) inS (by omega) (by omega) (hP4.same (same_upd ht)) (k4.trans (Same.kp (same_upd ht)))
end
end Ft

set_option Elab.async false
set_option linter.all false
set_option maxRecDepth 100000
set_option maxHeartbeats 8000000
namespace Ft
open PySem PySem.Spec PyProof.Rows L2
theorem piece_up' (C : Chart) (a : Nat) : (pieceOf C a).Pairwise (· < ·) := by
  unfold pieceOf
  by_cases hw : a ∈ C.wished
  · rw [if_pos hw]
    exact List.pairwise_singleton _ _
  · rw [if_neg hw]
    exact those_up _ _
section
variable {P : Program} {w : World} {K : PySem.W.Frag} {mg : Str → Option Value} {base : Heap} {t1 t2 : Tok}
/-! ### _law_map_next -/
def sp_law_map_next (K : PySem.W.Frag) : Sp := fun vs H Q _ => ∃ (c lo : Addr) (C : Chart) (S : List Nat), vs = [.ref c, .ref lo] ∧ IsChart K H c C ∧ C.Ok ∧ SqT K H lo (S.map vN) ∧ ∀ (t : Addr) (N : List Nat) (H' : Hp), Same H H' → SqT K H' t (N.map vN) → Upto N C.n → Q (.ref t) H'
theorem cal_law_map_next (T : Txt mg) (D : Def K mg "_law_map_next" s_law_map_next) : Cal P w K mg base 2 "_law_map_next" (sp_law_map_next K) := by
  refine cal_of D sc_law_map_next (fun _ _ _ _ _ _ us hl => match us, hl with | [_, _], _ => rfl) (fun vs H Q E h => ?_) (fun f cdv A outer s H vs Q E hr h => ?_)
  · obtain ⟨c, lo, C, S, rfl, _⟩ := h
    rfl
  · obtain ⟨c, lo, C, S, rfl, ⟨r, wd, ts, hC⟩, ok, hS, q⟩ := h
    have n60 := ok.n60
    have m240 := ok.many
    refine ⟨_, (pss_cons (ps_setLc (i := 2) (own := [("a", 3), ("b", 4)]) rfl sc_law_map_next.nd rfl rfl (sw_true rfl rfl rfl (by decide +kernel)) (show PI _ _ _ (iTup K _) from pi_tup (pe_ix (show IxR _ (rIxT K) from ix_tup) (pv 0) pe_int (fun _ _ => rfl))) (blkOk_by (N := ["chart", "lot", "found", "a", "b"]) (sc := L2.defScope s_law_map_next) (by decide +kernel)) (fun _ _ _ _ _ => (show PG _ _ (gTup K 2 _) from pg_tup (by rfl) (pgs_cons (pg_name (i := 3) sc_law_map_next.nd rfl (Or.inl rfl)) (pgs_cons (pg_name (i := 4) sc_law_map_next.nd rfl (Or.inl rfl)) pgs_nil)))) (fun _ _ _ _ _ => pts_one (PW.pt (pw_and (pt_cmpR (show OpR _ _ (rIn K false) from op_in_seq) (pv 3) (pv 1) (by rfl)) (pw_and1 (PW.pt (pw_or (pt_cmpR (show OpR _ _ (rIn K false) from op_in_seq) (pv 4) (pe_ix (show IxR _ (rIxT K) from ix_tup) (pv 0) pe_int (fun _ _ => rfl)) (by rfl)) (pw_or1 (pt_cmpR (show OpR _ _ (rIn K true) from op_notIn_seq) (pv 4) (pv 1) (by rfl))))))))) (fun _ _ _ _ _ => (pv 4)))
      (pss_one (ps_ret (pe_callTy (show CallR _ _ (rTupleOf K) from call_tupleOf) (by rfl) T.tuple (by decide +kernel) (pa_cons (pe_callB (show CallR _ _ (rSortedSet w) from cr_sortedSet rfl) (by rfl) T.sorted (by decide +kernel) (pa_cons (pe_callTy (show CallR _ _ (rSetN K w) from cr_setN rfl) (by rfl) T.set (by decide +kernel) (pa_cons (pv 2) pa_nil)) pa_nil)) pa_nil))))), ?_⟩
    refine ⟨_, rfl, _, _, _, _, rfl, rfl, hC.top, rfl, r, rfl, ⟨_, hC.row⟩, fun e he => ?_⟩
    have keep : ∀ {H' : Hp}, Kp [e] H H' → Same H H' := fun {H'} k b o e' => k b o (fun m => by rw [List.mem_singleton.mp m, he] at e'; cases e') e'
    refine lc_tup (K := K) (xs := ts.map V.ref) (fun i H' => ∃ F : List Nat, Kp [e] H H' ∧ H' e = some (.lst (F.map vN)) ∧ F.length ≤ i ∧ ∀ x ∈ F, x < C.n)
      ⟨[], (fun b o x e' => by rw [upd_ne (ne_of_none e' he)]; exact e'), upd_same, Nat.le_refl _, fun _ h => nomatch h⟩ (fun i H' _ ⟨_, k, _⟩ => Same.sqT (keep k) hC.row) ?_ ?_
    · rintro i x H1 hx ⟨F, k1, hE, lF, inF⟩
      obtain ⟨t, ht, rfl⟩ := get_map hx
      obtain ⟨q0, hq0, pt⟩ := paired_getL hC.prs ht
      have il : i < C.roads.length := (List.getElem?_eq_some_iff.mp hq0).1
      have inq := ok.inR q0 (List.mem_of_getElem? hq0)
      have hC1 := hC.same (keep k1)
      have hS1 := Same.sqT (keep k1) hS
      have no : ∃ F : List Nat, Kp [e] H H1 ∧ H1 e = some (.lst (F.map vN)) ∧ F.length ≤ i + 1 ∧ ∀ x ∈ F, x < C.n := ⟨F, k1, hE, by omega, inF⟩
      have kU : Kp [e] H (upd H1 e (.lst (F.map vN ++ [vN q0.2]))) := by
        intro b o nb eb
        rw [upd_ne (fun z => nb (by rw [z]; simp))]
        exact k1 b o nb eb
      have inU : ∀ x ∈ F ++ [q0.2], x < C.n := fun x hx => by
        rcases List.mem_append.mp hx with hx | hx
        · exact inF x hx
        · rw [List.mem_singleton.mp hx]
          exact inq.2
      refine ⟨t, _, rfl, Same.sqT (keep k1) pt, rfl, _, _, rfl, _, _, rfl, rfl, rfl, ?_⟩
      refine ⟨_, rfl, _, rfl, lo, _, rfl, .inr hS1, rfl, all_vN S, _, rfl, ite_any (fun _ => ?_) (fun _ => no)⟩
      refine ⟨_, rfl, _, rfl, _, _, _, _, rfl, rfl, hC1.top, rfl, wd, _, rfl, .inr hC1.wis, rfl, all_vN C.wished, _, rfl, ite_any (fun _ => ?_) (fun _ => ?_)⟩
      · exact ⟨_, rfl, _, hE, by rw [List.length_map]; exact small1000 (by omega), F ++ [q0.2], kU, by rw [upd_same, List.map_append]; rfl, by rw [List.length_append]; exact Nat.succ_le_succ lF, inU⟩
      · refine ⟨_, rfl, _, rfl, lo, _, rfl, .inr hS1, rfl, all_vN S, _, rfl, ite_any (fun _ => ?_) (fun _ => no)⟩
        exact ⟨_, rfl, _, hE, by rw [List.length_map]; exact small1000 (by omega), F ++ [q0.2], kU, by rw [upd_same, List.map_append]; rfl, by rw [List.length_append]; exact Nat.succ_le_succ lF, inU⟩
    · rintro H1 ⟨F, k1, hE, lF, inF⟩
      rw [List.length_map, Paired.length hC.prs] at lF
      refine ⟨_, rfl, e, iN F, rfl, .inl (.inl (.inl (by rw [← vN_map]; exact hE))), by rw [iN_length]; omega, fun sa n2 hsa hn2 => ?_⟩
      have few : n2 < 64 := by
        have := hn2 (iN (List.range C.n)) fun k hk => by
          unfold iN at hk
          obtain ⟨b, hb, rfl⟩ := List.mem_map.mp hk
          exact iN_mem.mpr (List.mem_range.mpr (inF b hb))
        rw [iN_length, List.length_range] at this
        omega
      refine ⟨sa, _, n2, rfl, upd_same, few, fun gs u up mem _ hu => ?_⟩
      obtain ⟨wl, rfl, upw, memw⟩ := set_nat up mem
      refine ⟨u, _, rfl, .inl ⟨.inl (.inl upd_same), fun tp htp => ?_⟩⟩
      refine q tp wl _ ((keep k1).trans (((same_upd hsa).trans (same_upd hu)).trans (same_upd htp))) (.inl (.inl ?_)) ⟨upw, fun a ha => inF a ((memw a).mp ha)⟩
      rw [upd_same, ← vN_map]
/-! ### _law_map_members -/
def sp_law_map_members (K : PySem.W.Frag) : Sp := fun vs H Q _ => ∃ (c tb st : Addr) (C : Chart) (rows : List Addr) (S : List Nat), vs = [.ref c, .ref tb, .ref st] ∧ IsChart K H c C ∧ C.Ok ∧ TabAt H C tb rows ∧ SqT K H st (S.map vN) ∧ (∀ x ∈ S, x < C.n) ∧ S.length ≤ 9 ∧ ∀ q H', Same H H' → SqT K H' q ((membersOf C S).map vN) → Q (.ref q) H'
theorem cal_law_map_members (T : Txt mg) (D : Def K mg "_law_map_members" s_law_map_members) (c_law_map_piece : Cal P w K mg base 2 "_law_map_piece" (sp_law_map_piece K)) : Cal P w K mg base 3 "_law_map_members" (sp_law_map_members K) := by
  refine cal_of D sc_law_map_members (fun _ _ _ _ _ _ us hl => match us, hl with | [_, _, _], _ => rfl) (fun vs H Q E h => ?_) (fun f cdv A outer s H vs Q E hr h => ?_)
  · obtain ⟨c, tb, st, C, rows, S, rfl, _⟩ := h
    rfl
  · obtain ⟨c, tb, st, C, rows, S, rfl, hC, ok, hT, hS, inS, few, q⟩ := h
    have n60 := ok.n60
    refine ⟨_, (pss_cons (ps_set (i := 3) sc_law_map_members.nd rfl (Or.inl rfl) (pe_lst pa_nil))
      (pss_cons (ps_for PassesOwn.never rfl (show PI _ _ _ (iTup K _) from pi_tup (pv 2)) (pg_name (i := 4) sc_law_map_members.nd rfl (Or.inl rfl)) (pss_one (ps_set (i := 3) sc_law_map_members.nd rfl (Or.inl rfl) (pe_op op_cat (pv 3) (pe_callTy (show CallR _ _ (rListOf K) from call_listOf) (by rfl) T.list (by decide +kernel) (pa_cons (pe_c c_law_map_piece hr (by decide) (by rfl) (pa_cons (pv 0) (pa_cons (pv 1) (pa_cons (pv 4) pa_nil)))) pa_nil))))))
      (pss_one (ps_ret (pe_callTy (show CallR _ _ (rTupleOf K) from call_tupleOf) (by rfl) T.tuple (by decide +kernel) (pa_cons (pe_callB (show CallR _ _ (rSortedSet w) from cr_sortedSet rfl) (by rfl) T.sorted (by decide +kernel) (pa_cons (pe_callTy (show CallR _ _ (rSetN K w) from cr_setN rfl) (by rfl) T.set (by decide +kernel) (pa_cons (pv 3) pa_nil)) pa_nil)) pa_nil)))))), ?_⟩
    refine ⟨Nat.zero_le _, fun d0 hd0 => ?_⟩
    have s1 : Same H (upd H d0 (.lst [])) := same_upd hd0
    have hD1 : (upd H d0 (.lst [])) d0 = some (.lst []) := upd_same
    generalize upd H d0 (.lst []) = H1 at s1 hD1
    have hS1 := Same.sqT s1 hS
    refine ⟨_, rfl, st, rfl, ⟨_, hS1⟩, for_it (walk_tup (K := K) (a := st) (xs := S.map vN)) (fun i σ H' => ∃ (d : Addr) (F : List Nat) (v4 : Option V), σ = [some (.ref c), some (.ref tb), some (.ref st), some (.ref d), v4] ∧ Same H1 H' ∧ H' d = some (.lst (F.map vN)) ∧ F.length ≤ 60 * i ∧ ∀ b, b ∈ F ↔ ∃ a ∈ S.take i, b ∈ pieceOf C a)
      ⟨d0, [], _, rfl, fun _ _ h => h, hD1, Nat.zero_le _, fun b => by simp⟩ (fun i σ H' _ ⟨_, _, _, _, s, _⟩ => Same.sqT s hS1) ?_ ?_⟩
    · rintro i x σ Hx H2 hi ⟨d, F, v4, rfl, s2, hD2, lF, memF⟩ ⟨rfl, hx⟩
      obtain ⟨a, ha, rfl⟩ := get_map hx
      have han := inS a (List.mem_of_getElem? ha)
      have i9 : i < S.length := (List.getElem?_eq_some_iff.mp ha).1
      have s02 := s1.trans s2
      refine ⟨_, rfl, _, rfl, _, rfl, _, rfl, c, tb, C, rows, a, rfl, hC.same s02, ok, han, hT.same s02, fun t H3 s3 ht => ?_⟩
      refine ⟨t, _, rfl, .inr ht, fun l hl => ?_⟩
      have s4 : Same H3 (upd H3 l (.lst ((pieceOf C a).map vN))) := same_upd hl
      have hL4 : (upd H3 l (.lst ((pieceOf C a).map vN))) l = some (.lst ((pieceOf C a).map vN)) := upd_same
      generalize upd H3 l (.lst ((pieceOf C a).map vN)) = H4 at s4 hL4
      have pl : (pieceOf C a).length ≤ C.n := up_len (piece_up' C a) fun b hb => piece_lt' han hb
      refine ⟨d, l, _, _, rfl, rfl, s4 _ _ (s3 _ _ hD2), hL4, ?_, fun z hz => ?_⟩
      · rw [List.length_map, List.length_map]
        have : (1000 : Nat) ≤ sizeLine := by decide
        omega
      · have s5 : Same H4 (upd H4 z (.lst (F.map vN ++ (pieceOf C a).map vN))) := same_upd hz
        refine ⟨z, F ++ pieceOf C a, _, rfl, s2.trans (s3.trans (s4.trans s5)), by rw [upd_same, List.map_append], by rw [List.length_append]; omega, fun b => ?_⟩
        rw [List.mem_append, memF b, take_more ha]
        constructor
        · rintro (⟨a', h1, h2⟩ | h)
          · exact ⟨a', List.mem_append_left _ h1, h2⟩
          · exact ⟨a, List.mem_append_right _ (List.mem_singleton.mpr rfl), h⟩
        · rintro ⟨a', h1, h2⟩
          rcases List.mem_append.mp h1 with h1 | h1
          · exact .inl ⟨a', h1, h2⟩
          · rw [List.mem_singleton.mp h1] at h2
            exact .inr h2
    · rintro σ H2 ⟨d, F, v4, rfl, s2, hD2, lF, memF⟩
      have e0 : S.take (S.map vN).length = S := List.take_of_length_le (by rw [List.length_map]; exact Nat.le_refl _)
      rw [e0] at memF
      rw [List.length_map] at lF
      have inF : ∀ x ∈ F, x < C.n := fun x hx => by
        obtain ⟨a, h1, h2⟩ := (memF x).mp hx
        exact piece_lt' (inS a h1) h2
      refine ⟨_, rfl, d, iN F, rfl, .inl (.inl (.inl (by rw [← vN_map]; exact hD2))), by rw [iN_length]; omega, fun sa n2 hsa hn2 => ?_⟩
      have few : n2 < 64 := by
        have := hn2 (iN (List.range C.n)) fun k hk => by
          unfold iN at hk
          obtain ⟨b, hb, rfl⟩ := List.mem_map.mp hk
          exact iN_mem.mpr (List.mem_range.mpr (inF b hb))
        rw [iN_length, List.length_range] at this
        omega
      refine ⟨sa, _, n2, rfl, upd_same, few, fun gs u up mem _ hu => ?_⟩
      obtain ⟨wl, rfl, upw, memw⟩ := set_nat up mem
      have e : wl = membersOf C S := those_is upw fun x => by
        rw [memw x, memF x]
        exact ⟨fun ⟨a, h1, h2⟩ => ⟨piece_lt' (inS a h1) h2, a, h1, h2⟩, fun ⟨_, h⟩ => h⟩
      refine ⟨u, _, rfl, .inl ⟨.inl (.inl upd_same), fun tp htp => ?_⟩⟩
      refine q tp _ ((s1.trans s2).trans (((same_upd hsa).trans (same_upd hu)).trans (same_upd htp))) (.inl (.inl ?_))
      rw [upd_same, ← vN_map, e]
end
end Ft

set_option Elab.async false
set_option linter.all false
set_option maxRecDepth 100000
set_option maxHeartbeats 4000000
/-! Plain mathematics: how many roads are left, from each place -/
namespace Ft
/-- the numbers that belong to the places from which a wished place is come to without a trap -/
structure Left (n : Nat) (rs : List (Nat × Nat)) (ws T : List Nat) (L : List (Nat × Nat)) : Prop where
  nd : (L.map (·.1)).Nodup
  lt : ∀ p ∈ L, p.1 < n ∧ p.1 ∉ T
  zero : ∀ b, (b, 0) ∈ L ↔ b ∈ ws ∧ b ∉ T
  succ : ∀ b k, (b, k + 1) ∈ L → b ∉ ws ∧ ∃ c, (b, c) ∈ rs ∧ (c, k) ∈ L
  near : ∀ b c j, (b, c) ∈ rs → b ∉ ws → b ∉ T → (c, j) ∈ L → ∃ k, k ≤ j + 1 ∧ (b, k) ∈ L
/-- .. while they are being found: m rounds are done, those in A came last -/
structure Lefting (n : Nat) (rs : List (Nat × Nat)) (ws T : List Nat) (m : Nat) (L : List (Nat × Nat)) (A : List Nat) : Prop where
  nd : (L.map (·.1)).Nodup
  lt : ∀ p ∈ L, p.1 < n ∧ p.1 ∉ T
  zero : ∀ b, (b, 0) ∈ L ↔ b ∈ ws ∧ b ∉ T
  succ : ∀ b k, (b, k + 1) ∈ L → b ∉ ws ∧ ∃ c, (b, c) ∈ rs ∧ (c, k) ∈ L
  top : ∀ p ∈ L, p.2 ≤ m
  near : ∀ b c j, (b, c) ∈ rs → b ∉ ws → b ∉ T → j < m → (c, j) ∈ L → ∃ k, k ≤ j + 1 ∧ (b, k) ∈ L
  last : ∀ b, b ∈ A ↔ (b, m) ∈ L
theorem key_mem {L : List (Nat × Nat)} {b : Nat} : b ∈ L.map (·.1) ↔ ∃ k, (b, k) ∈ L := by
  rw [List.mem_map]
  exact ⟨fun ⟨⟨x, k⟩, h, e⟩ => ⟨k, by cases e; exact h⟩, fun ⟨k, h⟩ => ⟨(b, k), h, rfl⟩⟩
theorem Lefting.start {n : Nat} {rs : List (Nat × Nat)} {ws T W : List Nat} (inW : ∀ a ∈ ws, a < n) (nd : W.Nodup) (hW : ∀ b, b ∈ W ↔ b ∈ ws ∧ b ∉ T) : Lefting n rs ws T 0 (W.map fun b => (b, 0)) W := by
  have mem : ∀ b k, (b, k) ∈ W.map (fun b => (b, 0)) ↔ b ∈ W ∧ k = 0 := by
    intro b k
    rw [List.mem_map]
    exact ⟨fun ⟨x, h, e⟩ => by cases e; exact ⟨h, rfl⟩, fun ⟨h, e⟩ => ⟨b, h, by rw [e]⟩⟩
  refine ⟨?_, ?_, ?_, ?_, ?_, ?_, ?_⟩
  · rw [List.map_map]
    have : W.map ((fun p : Nat × Nat => p.1) ∘ fun b => (b, 0)) = W := by
      conv => rhs; rw [← List.map_id W]
      rfl
    rw [this]
    exact nd
  · rintro ⟨b, k⟩ h
    have := (hW b).mp ((mem b k).mp h).1
    exact ⟨inW b this.1, this.2⟩
  · intro b
    rw [mem, hW]
    exact ⟨fun h => h.1, fun h => ⟨h, rfl⟩⟩
  · intro b k h
    exact absurd ((mem _ _).mp h).2 (by omega)
  · rintro ⟨b, k⟩ h
    exact Nat.le_of_eq ((mem _ _).mp h).2
  · intro b c j _ _ _ h
    exact absurd h (Nat.not_lt_zero _)
  · intro b
    rw [mem]
    exact ⟨fun h => ⟨h, rfl⟩, fun h => h.1⟩
theorem Lefting.step {n : Nat} {rs : List (Nat × Nat)} {ws T A A' : List Nat} {m : Nat} {L : List (Nat × Nat)} (h : Lefting n rs ws T m L A) (inR : ∀ p ∈ rs, p.1 < n ∧ p.2 < n) (nd : A'.Nodup) (hA : ∀ a, a ∈ A' ↔ (∃ b ∈ A, (a, b) ∈ rs) ∧ a ∉ ws ∧ a ∉ T ∧ a ∉ L.map (·.1)) :
    Lefting n rs ws T (m + 1) (L ++ A'.map fun a => (a, m + 1)) A' := by
  have mem : ∀ b k, (b, k) ∈ A'.map (fun a => (a, m + 1)) ↔ b ∈ A' ∧ k = m + 1 := by
    intro b k
    rw [List.mem_map]
    exact ⟨fun ⟨x, h, e⟩ => by cases e; exact ⟨h, rfl⟩, fun ⟨h, e⟩ => ⟨b, h, by rw [e]⟩⟩
  refine ⟨?_, ?_, ?_, ?_, ?_, ?_, ?_⟩
  · rw [List.map_append, List.map_map]
    have : A'.map ((fun p : Nat × Nat => p.1) ∘ fun a => (a, m + 1)) = A' := by
      conv => rhs; rw [← List.map_id A']
      rfl
    rw [this, List.nodup_append]
    exact ⟨h.nd, nd, fun x hx y hy e => ((hA y).mp hy).2.2.2 (e ▸ hx)⟩
  · rintro ⟨b, k⟩ hb
    rcases List.mem_append.mp hb with hb | hb
    · exact h.lt _ hb
    · obtain ⟨⟨c, _, hr⟩, _, ht, _⟩ := (hA b).mp ((mem b k).mp hb).1
      exact ⟨(inR _ hr).1, ht⟩
  · intro b
    rw [List.mem_append, mem, ← h.zero b]
    exact ⟨fun q => q.elim id fun q => absurd q.2 (by omega), .inl⟩
  · intro b k hb
    rcases List.mem_append.mp hb with hb | hb
    · obtain ⟨h1, c, h2, h3⟩ := h.succ b k hb
      exact ⟨h1, c, h2, List.mem_append_left _ h3⟩
    · obtain ⟨hm, e⟩ := (mem _ _).mp hb
      obtain ⟨⟨c, hc, hr⟩, hw, _⟩ := (hA b).mp hm
      have ek : k = m := by omega
      rw [ek]
      exact ⟨hw, c, hr, List.mem_append_left _ ((h.last c).mp hc)⟩
  · rintro ⟨b, k⟩ hb
    rcases List.mem_append.mp hb with hb | hb
    · exact Nat.le_succ_of_le (h.top _ hb)
    · exact Nat.le_of_eq ((mem _ _).mp hb).2
  · intro b c j hr hw ht hj hc
    have hc' : (c, j) ∈ L := by
      rcases List.mem_append.mp hc with hc | hc
      · exact hc
      · exact absurd ((mem _ _).mp hc).2 (by omega)
    by_cases e : j = m
    · by_cases hk : b ∈ L.map (·.1)
      · obtain ⟨k, hk⟩ := key_mem.mp hk
        exact ⟨k, by have : k ≤ m := h.top _ hk; omega, List.mem_append_left _ hk⟩
      · refine ⟨m + 1, by omega, List.mem_append_right _ ((mem _ _).mpr ⟨(hA b).mpr ⟨⟨c, (h.last c).mpr (e ▸ hc'), hr⟩, hw, ht, hk⟩, rfl⟩)⟩
    · obtain ⟨k, h1, h2⟩ := h.near b c j hr hw ht (by omega) hc'
      exact ⟨k, h1, List.mem_append_left _ h2⟩
  · intro b
    rw [List.mem_append, mem]
    constructor
    · intro hb
      exact .inr ⟨hb, rfl⟩
    · rintro (hb | hb)
      · have : m + 1 ≤ m := h.top _ hb
        omega
      · exact hb.1
theorem Lefting.ends {n : Nat} {rs : List (Nat × Nat)} {ws T : List Nat} {m : Nat} {L : List (Nat × Nat)} (h : Lefting n rs ws T m L []) : Left n rs ws T L := by
  refine ⟨h.nd, h.lt, h.zero, h.succ, fun b c j hr hw ht hc => ?_⟩
  have h1 : j ≤ m := h.top _ hc
  by_cases e : j = m
  · exact absurd ((h.last c).mpr (e ▸ hc)) List.not_mem_nil
  · exact h.near b c j hr hw ht (by omega) hc
theorem len_of_lt (l : List Nat) (n : Nat) (nd : l.Nodup) (b : ∀ x ∈ l, x < n) : l.length ≤ n := by
  have := L2.nat_nodup_len l (List.range n) nd fun x hx => List.mem_range.mpr (b x hx)
  rwa [List.length_range] at this
theorem Lefting.len {n : Nat} {rs : List (Nat × Nat)} {ws T A : List Nat} {m : Nat} {L : List (Nat × Nat)} (h : Lefting n rs ws T m L A) : L.length ≤ n := by
  have := len_of_lt (L.map (·.1)) n h.nd fun x hx => by
    obtain ⟨p, hp, rfl⟩ := List.mem_map.mp hx
    exact (h.lt p hp).1
  rwa [List.length_map] at this
theorem Left.one {n : Nat} {rs : List (Nat × Nat)} {ws T : List Nat} {L : List (Nat × Nat)} (h : Left n rs ws T L) {b k j : Nat} (h1 : (b, k) ∈ L) (h2 : (b, j) ∈ L) : k = j := by
  have : ∀ (L : List (Nat × Nat)), (L.map (·.1)).Nodup → (b, k) ∈ L → (b, j) ∈ L → k = j := by
    intro L
    induction L with
    | nil => intro _ z; exact absurd z List.not_mem_nil
    | cons p L ih =>
      intro nd m1 m2
      rw [List.map_cons] at nd
      obtain ⟨n1, n2⟩ := List.nodup_cons.mp nd
      rcases List.mem_cons.mp m1 with e1 | m1
      · rcases List.mem_cons.mp m2 with e2 | m2
        · have := e1.trans e2.symm
          injection this
        · exact absurd (key_mem.mpr ⟨j, m2⟩) (by rw [← e1] at n1; exact n1)
      · rcases List.mem_cons.mp m2 with e2 | m2
        · exact absurd (key_mem.mpr ⟨k, m1⟩) (by rw [← e2] at n1; exact n1)
        · exact ih n2 m1 m2
  exact this L h.nd h1 h2
/-- no number is greater than there are places -/
theorem Left.many {n : Nat} {rs : List (Nat × Nat)} {ws T : List Nat} {L : List (Nat × Nat)} (h : Left n rs ws T L) : ∀ (k b : Nat), (b, k) ∈ L → k < n := by
  have ex : ∀ (k b : Nat), (b, k) ∈ L → ∃ l : List Nat, l.length = k + 1 ∧ l.Nodup ∧ ∀ x ∈ l, ∃ j, j ≤ k ∧ (x, j) ∈ L := by
    intro k
    induction k with
    | zero => exact fun b hb => ⟨[b], rfl, by simp, fun x hx => ⟨0, Nat.le_refl _, by rw [List.mem_singleton.mp hx]; exact hb⟩⟩
    | succ k ih =>
      intro b hb
      obtain ⟨_, c, _, hc⟩ := h.succ b k hb
      obtain ⟨l, h1, h2, h3⟩ := ih c hc
      refine ⟨b :: l, by rw [List.length_cons, h1], List.nodup_cons.mpr ⟨fun m => ?_, h2⟩, fun x hx => ?_⟩
      · obtain ⟨j, hj, hx⟩ := h3 b m
        have := h.one hb hx
        omega
      · rcases List.mem_cons.mp hx with e | hx
        · exact ⟨k + 1, Nat.le_refl _, e ▸ hb⟩
        · obtain ⟨j, hj, hm⟩ := h3 x hx
          exact ⟨j, by omega, hm⟩
  intro k b hb
  obtain ⟨l, h1, h2, h3⟩ := ex k b hb
  have := len_of_lt l n h2 fun x hx => by
    obtain ⟨j, _, hm⟩ := h3 x hx
    exact (h.lt _ hm).1
  omega
end Ft

set_option Elab.async false
set_option linter.all false
set_option maxRecDepth 100000
set_option maxHeartbeats 4000000
/-! Plain mathematics: meeting places past traps, from several places -/
namespace Ft
/-- the roads that lead to no trap -/
def past (rs : List (Nat × Nat)) (T : List Nat) : List (Nat × Nat) := rs.filter fun p => !decide (p.2 ∈ T)
theorem past_mem {rs : List (Nat × Nat)} {T : List Nat} {a b : Nat} : (a, b) ∈ past rs T ↔ (a, b) ∈ rs ∧ b ∉ T := by
  unfold past
  rw [List.mem_filter]
  simp
structure LayS (n : Nat) (rs : List (Nat × Nat)) (ws S F W : List Nat) : Prop where
  nd : F.Nodup
  lt : ∀ b ∈ F, b < n
  fair : ∀ b ∈ F, ∃ a ∈ S, Reach rs ws a b
  wait : ∀ x ∈ W, x ∈ S ∨ (x ∈ F ∧ x ∉ ws)
  ok : ∀ x, (x ∈ S ∨ (x ∈ F ∧ x ∉ ws)) → x ∈ W ∨ ∀ b, (x, b) ∈ rs → b ∈ F
theorem LayS.start {n : Nat} {rs : List (Nat × Nat)} {ws S : List Nat} : LayS n rs ws S [] S :=
  ⟨List.nodup_nil, fun _ h => absurd h List.not_mem_nil, fun _ h => absurd h List.not_mem_nil, fun _ h => .inl h, fun x h => h.elim .inl fun h => absurd h.1 List.not_mem_nil⟩
/-- within a turn: i roads are looked at, G is met, A lies ahead -/
structure Turn (n : Nat) (rs : List (Nat × Nat)) (T ws S F W : List Nat) (i : Nat) (G A : List Nat) : Prop where
  nd : G.Nodup
  lt : ∀ b ∈ G, b < n
  fair : ∀ b ∈ G, ∃ a ∈ S, Reach (past rs T) ws a b
  old : ∀ b ∈ F, b ∈ G
  new : ∀ b ∈ G, b ∈ F ∨ b ∈ ws ∨ b ∈ A
  ahead : ∀ b ∈ A, b ∈ G ∧ b ∉ ws
  took : ∀ a b, (a, b) ∈ rs.take i → a ∈ W → b ∉ T → b ∈ G
  more : F.length + A.length ≤ G.length
theorem Turn.start {n : Nat} {rs : List (Nat × Nat)} {T ws S F W : List Nat} (h : LayS n (past rs T) ws S F W) : Turn n rs T ws S F W 0 F [] :=
  ⟨h.nd, h.lt, h.fair, fun _ h => h, fun _ h => .inl h, fun _ h => absurd h List.not_mem_nil, fun a b h => by simp at h, Nat.le_refl _⟩
theorem Turn.pass {n : Nat} {rs : List (Nat × Nat)} {T ws S F W G A : List Nat} {i : Nat} {p : Nat × Nat} (h : Turn n rs T ws S F W i G A) (hp : rs[i]? = some p) (no : p.1 ∈ W → p.2 ∉ T → p.2 ∈ G) : Turn n rs T ws S F W (i + 1) G A := by
  refine ⟨h.nd, h.lt, h.fair, h.old, h.new, h.ahead, fun a b hab ha hb => ?_, h.more⟩
  rw [List.take_add_one, hp] at hab
  rcases List.mem_append.mp hab with hab | hab
  · exact h.took a b hab ha hb
  · have e : (a, b) = p := by simpa using hab
    rw [← e] at no
    exact no ha hb
theorem Turn.add {n : Nat} {rs : List (Nat × Nat)} {T ws S F W G A : List Nat} {i : Nat} {p : Nat × Nat} (l : LayS n (past rs T) ws S F W) (h : Turn n rs T ws S F W i G A) (inR : ∀ p ∈ rs, p.1 < n ∧ p.2 < n) (hp : rs[i]? = some p) (h1 : p.1 ∈ W) (h2 : p.2 ∉ T) (h3 : p.2 ∉ G) :
    Turn n rs T ws S F W (i + 1) (G ++ [p.2]) (if p.2 ∈ ws then A else A ++ [p.2]) := by
  have hm := List.mem_of_getElem? hp
  have hmT : (p.1, p.2) ∈ past rs T := past_mem.mpr ⟨hm, h2⟩
  refine ⟨?_, ?_, ?_, fun b hb => List.mem_append_left _ (h.old b hb), ?_, ?_, fun a b hab ha hb => ?_, ?_⟩
  · rw [List.nodup_append]
    exact ⟨h.nd, by simp, fun x hx y hy z => h3 (by rw [← List.mem_singleton.mp hy, ← z]; exact hx)⟩
  · intro b hb
    rcases List.mem_append.mp hb with hb | hb
    · exact h.lt b hb
    · rw [List.mem_singleton.mp hb]
      exact (inR p hm).2
  · intro b hb
    rcases List.mem_append.mp hb with hb | hb
    · exact h.fair b hb
    · rw [List.mem_singleton.mp hb]
      rcases l.wait p.1 h1 with e | ⟨e1, e2⟩
      · exact ⟨p.1, e, .one hmT⟩
      · obtain ⟨a, ha, ra⟩ := l.fair p.1 e1
        exact ⟨a, ha, .more ra e2 hmT⟩
  · intro b hb
    rcases List.mem_append.mp hb with hb | hb
    · rcases h.new b hb with e | e | e
      · exact .inl e
      · exact .inr (.inl e)
      · refine .inr (.inr ?_)
        by_cases hw : p.2 ∈ ws
        · rw [if_pos hw]; exact e
        · rw [if_neg hw]; exact List.mem_append_left _ e
    · rw [List.mem_singleton.mp hb]
      by_cases hw : p.2 ∈ ws
      · exact .inr (.inl hw)
      · rw [if_neg hw]
        exact .inr (.inr (List.mem_append_right _ (List.mem_singleton.mpr rfl)))
  · intro b hb
    by_cases hw : p.2 ∈ ws
    · rw [if_pos hw] at hb
      exact ⟨List.mem_append_left _ (h.ahead b hb).1, (h.ahead b hb).2⟩
    · rw [if_neg hw] at hb
      rcases List.mem_append.mp hb with hb | hb
      · exact ⟨List.mem_append_left _ (h.ahead b hb).1, (h.ahead b hb).2⟩
      · rw [List.mem_singleton.mp hb]
        exact ⟨List.mem_append_right _ (List.mem_singleton.mpr rfl), hw⟩
  · rw [List.take_add_one, hp] at hab
    rcases List.mem_append.mp hab with hab | hab
    · exact List.mem_append_left _ (h.took a b hab ha hb)
    · have e : (a, b) = p := by simpa using hab
      rw [← e]
      exact List.mem_append_right _ (List.mem_singleton.mpr rfl)
  · have := h.more
    by_cases hw : p.2 ∈ ws
    · rw [if_pos hw, List.length_append]
      omega
    · rw [if_neg hw, List.length_append, List.length_append]
      show F.length + (A.length + 1) ≤ G.length + 1
      omega
theorem Turn.done {n : Nat} {rs : List (Nat × Nat)} {T ws S F W G A : List Nat} (l : LayS n (past rs T) ws S F W) (h : Turn n rs T ws S F W rs.length G A) : LayS n (past rs T) ws S G A := by
  refine ⟨h.nd, h.lt, h.fair, fun x hx => .inr (h.ahead x hx), fun x hx => ?_⟩
  have old : (x ∈ S ∨ (x ∈ F ∧ x ∉ ws)) → x ∈ A ∨ ∀ b, (x, b) ∈ past rs T → b ∈ G := fun q => by
    refine .inr fun b hb => ?_
    rcases l.ok x q with hw | hw
    · have := past_mem.mp hb
      exact h.took x b (by rw [List.take_length]; exact this.1) hw this.2
    · exact h.old b (hw b hb)
  rcases hx with hx | ⟨h1, h2⟩
  · exact old (.inl hx)
  · rcases h.new x h1 with e | e | e
    · exact old (.inr ⟨e, h2⟩)
    · exact absurd e h2
    · exact .inl e
theorem LayS.ends {n : Nat} {rs : List (Nat × Nat)} {ws S F : List Nat} (l : LayS n rs ws S F []) (x : Nat) : x ∈ F ↔ x < n ∧ ∃ a ∈ S, Reach rs ws a x := by
  constructor
  · intro h
    exact ⟨l.lt x h, l.fair x h⟩
  · rintro ⟨_, a, ha, r⟩
    refine r.within (S := (· ∈ F)) (fun y hy => ?_) fun y z hy hw hz => ?_
    · exact (l.ok a (.inl ha)).elim (fun h => absurd h List.not_mem_nil) fun h => h y hy
    · exact (l.ok y (.inr ⟨hy, hw⟩)).elim (fun h => absurd h List.not_mem_nil) fun h => h z hz
/-- what roads_left says, in the words of the law -/
theorem Left.starts {n : Nat} {rs : List (Nat × Nat)} {ws T S : List Nat} {L : List (Nat × Nat)} (h : Left n rs ws T L) : (∃ a ∈ S, ∃ b k, (a, b) ∈ rs ∧ (b, k) ∈ L) ↔ ∃ a ∈ S, ∃ p ∈ ws, Reach (past rs T) ws a p := by
  have down : ∀ k b, (b, k) ∈ L → ∃ p ∈ ws, b = p ∨ (b ∉ ws ∧ Reach (past rs T) ws b p) := by
    intro k
    induction k with
    | zero => exact fun b hb => ⟨b, ((h.zero b).mp hb).1, .inl rfl⟩
    | succ k ih =>
      intro b hb
      obtain ⟨hw, c, hr, hc⟩ := h.succ b k hb
      have hcT := (h.lt _ hc).2
      obtain ⟨p, hp, e⟩ := ih c hc
      refine ⟨p, hp, .inr ⟨hw, ?_⟩⟩
      rcases e with e | ⟨e1, e2⟩
      · rw [← e]
        exact .one (past_mem.mpr ⟨hr, hcT⟩)
      · exact Reach.cons (past_mem.mpr ⟨hr, hcT⟩) e1 e2
  constructor
  · rintro ⟨a, ha, b, k, hr, hk⟩
    have hbT := (h.lt _ hk).2
    obtain ⟨p, hp, e⟩ := down k b hk
    refine ⟨a, ha, p, hp, ?_⟩
    rcases e with e | ⟨e1, e2⟩
    · rw [← e]
      exact .one (past_mem.mpr ⟨hr, hbT⟩)
    · exact Reach.cons (past_mem.mpr ⟨hr, hbT⟩) e1 e2
  · rintro ⟨a, ha, p, hp, r⟩
    have off : ∀ {b}, Reach (past rs T) ws a b → b ∉ T := fun r => by
      cases r with
      | one e => exact (past_mem.mp e).2
      | more _ _ e => exact (past_mem.mp e).2
    have up : ∀ {b}, Reach (past rs T) ws a b → (∃ k, (b, k) ∈ L) → ∃ b k, (a, b) ∈ rs ∧ (b, k) ∈ L := by
      intro b r
      induction r with
      | one e => exact fun ⟨k, hk⟩ => ⟨_, k, (past_mem.mp e).1, hk⟩
      | @more b c q hb e ih =>
        rintro ⟨k, hk⟩
        obtain ⟨j, _, hj⟩ := h.near b c k (past_mem.mp e).1 hb (off q) hk
        exact ih ⟨j, hj⟩
    obtain ⟨b, k, h1, h2⟩ := up r ⟨0, (h.zero p).mpr ⟨hp, off r⟩⟩
    exact ⟨a, ha, b, k, h1, h2⟩
/-- traps on unwished starts change nothing -/
theorem traps_inner {rs : List (Nat × Nat)} {ws S I T1 T2 : List Nat} (sub : ∀ x ∈ I, x ∈ S) (unw : ∀ x ∈ I, x ∉ ws) (same : ∀ x, x ∉ I → (x ∈ T2 → x ∈ T1)) (h : ∃ a ∈ S, ∃ p ∈ ws, Reach (past rs T1) ws a p) : ∃ a ∈ S, ∃ p ∈ ws, Reach (past rs T2) ws a p := by
  obtain ⟨a, ha, p, hp, r⟩ := h
  have all : ∀ {b}, Reach (past rs T1) ws a b → b ∈ I ∨ ∃ a' ∈ S, Reach (past rs T2) ws a' b := by
    intro b r
    induction r with
    | @one b e =>
      by_cases hi : b ∈ I
      · exact .inl hi
      · exact .inr ⟨a, ha, .one (past_mem.mpr ⟨(past_mem.mp e).1, fun h => (past_mem.mp e).2 (same b hi h)⟩)⟩
    | @more b c _ hb e ih =>
      by_cases hi : c ∈ I
      · exact .inl hi
      · have ec : (b, c) ∈ past rs T2 := past_mem.mpr ⟨(past_mem.mp e).1, fun h => (past_mem.mp e).2 (same c hi h)⟩
        rcases ih with h | ⟨a', ha', r'⟩
        · exact .inr ⟨b, sub b h, .one ec⟩
        · exact .inr ⟨a', ha', .more r' hb ec⟩
  rcases all r with h | ⟨a', ha', r'⟩
  · exact absurd hp (unw p h)
  · exact ⟨a', ha', p, hp, r'⟩
end Ft

set_option Elab.async false
set_option linter.all false
set_option maxRecDepth 100000
set_option maxHeartbeats 8000000
namespace Ft
open PySem PySem.Spec PyProof.Rows L2
/-! ### a dict of places, each with a number -/
def lvOf (L : List (Nat × Nat)) : List (Key × V) := L.map fun p => ((Sum.inl (p.1 : Int) : Key), vN p.2)
theorem lvOf_none : ∀ (L : List (Nat × Nat)) (x : Nat), x ∉ L.map (·.1) → valV (lvOf L) (Sum.inl (x : Int) : Key) = none
  | [], _, _ => by simp [lvOf, valV]
  | p :: L, x, h => by
    have ih := lvOf_none L x fun m => h (List.mem_cons_of_mem _ m)
    unfold valV lvOf at ih ⊢
    rw [List.map_cons, List.find?_cons]
    have e : decide (((Sum.inl (p.1 : Int) : Key)) = Sum.inl (x : Int)) = false := by
      refine decide_eq_false fun q => h ?_
      have := Sum.inl.inj q
      have : p.1 = x := by omega
      rw [List.map_cons, ← this]
      exact List.mem_cons_self
    simp only [e]
    exact ih
theorem lvOf_some : ∀ (L : List (Nat × Nat)) (x k : Nat), (L.map (·.1)).Nodup → (x, k) ∈ L → valV (lvOf L) (Sum.inl (x : Int) : Key) = some (vN k)
  | [], _, _, _, h => nomatch h
  | p :: L, x, k, nd, h => by
    rw [List.map_cons] at nd
    obtain ⟨n1, n2⟩ := List.nodup_cons.mp nd
    unfold valV lvOf
    rw [List.map_cons, List.find?_cons]
    rcases List.mem_cons.mp h with e | h
    · rw [← e]
      simp
    · have ih := lvOf_some L x k n2 h
      unfold valV lvOf at ih
      have e : decide (((Sum.inl (p.1 : Int) : Key)) = Sum.inl (x : Int)) = false := by
        refine decide_eq_false fun q => n1 ?_
        have := Sum.inl.inj q
        have : p.1 = x := by omega
        rw [this]
        exact key_mem.mpr ⟨k, h⟩
      simp only [e]
      exact ih
theorem lvOf_put (L : List (Nat × Nat)) (x k : Nat) (h : x ∉ L.map (·.1)) : putK (lvOf L) (Sum.inl (x : Int) : Key) (vN k) = lvOf (L ++ [(x, k)]) := by
  rw [putK_new _ (lvOf_none L x h)]
  unfold lvOf
  rw [List.map_append]
  rfl
theorem lvOf_len (L : List (Nat × Nat)) : (lvOf L).length = L.length := List.length_map ..
/-- the keys of a dict are these places -/
def Keyed (kvs : List (Key × V)) (A : List Nat) : Prop := kvs.map (·.1) = A.map fun (n : Nat) => (Sum.inl (n : Int) : Key)
theorem keyed_val : ∀ {kvs : List (Key × V)} {A : List Nat}, Keyed kvs A → ∀ x : Nat, (valV kvs (Sum.inl (x : Int) : Key)).isSome = decide (x ∈ A)
  | [], [], _, x => by simp [valV]
  | [], _ :: _, h, _ => by simp [Keyed] at h
  | _ :: _, [], h, _ => by simp [Keyed] at h
  | p :: kvs, a :: A, h, x => by
    unfold Keyed at h
    rw [List.map_cons, List.map_cons] at h
    injection h with h1 h2
    have ih := keyed_val (kvs := kvs) (A := A) h2 x
    unfold valV at ih ⊢
    rw [List.find?_cons, h1]
    by_cases e : a = x
    · subst e
      simp
    · have e1 : decide (((Sum.inl (a : Int) : Key)) = Sum.inl (x : Int)) = false := by
        refine decide_eq_false fun q => e ?_
        have := Sum.inl.inj q
        omega
      have hx : x ≠ a := fun q => e q.symm
      simp only [e1, List.mem_cons, hx, false_or]
      exact ih
theorem keyed_keysOf (A : List Nat) : Keyed (keysOf A) A := by
  unfold Keyed keysOf
  rw [List.map_map]
  rfl
theorem keyed_zeros (W : List Nat) : Keyed (lvOf (W.map fun b => (b, 0))) W := by
  unfold Keyed lvOf
  rw [List.map_map, List.map_map]
  rfl
theorem keysOf_again : ∀ (B : List Nat) (x : Nat), x ∈ B → putK (keysOf B) (Sum.inl (x : Int) : Key) (.bl true) = keysOf B := by
  intro B x h
  unfold putK
  rw [if_pos (by
    rw [List.any_eq_true]
    exact ⟨(Sum.inl (x : Int), .bl true), List.mem_map.mpr ⟨x, h, rfl⟩, by simp⟩)]
  conv => rhs; rw [← List.map_id (keysOf B)]
  refine List.map_congr_left fun kv hkv => ?_
  unfold keysOf at hkv
  obtain ⟨y, _, rfl⟩ := List.mem_map.mp hkv
  by_cases e : ((Sum.inl (y : Int) : Key)) = Sum.inl (x : Int)
  · rw [if_pos e]
    rfl
  · rw [if_neg e]
    rfl
/-- how much of the search is left -/
def restOf (n : Nat) (d : Addr) (σ : L2.St) (H : Hp) : Nat := match σ[5]?, H d with
  | some (some (V.ref la)), some (HO.dK kvs) => (n - kvs.length) + (match H la with
    | some (HO.dK (_ :: _)) => 1
    | _ => 0)
  | _, _ => 0
theorem restOf_is {n : Nat} {d la : Addr} {σ : L2.St} {H : Hp} {ks kvs : List (Key × V)} (h0 : σ[5]? = some (some (V.ref la))) (h1 : H d = some (.dK ks)) (h2 : H la = some (.dK kvs)) : restOf n d σ H = (n - ks.length) + (if kvs = [] then 0 else 1) := by
  unfold restOf
  simp only [h0, h1, h2]
  cases kvs with
  | nil => simp
  | cons a b => simp
section
variable {P : Program} {w : World} {K : PySem.W.Frag} {mg : Str → Option Value} {base : Heap} {t1 t2 : Tok}
/-! ### roads_left -/
def sp_roads_left (K : PySem.W.Frag) : Sp := fun vs H Q _ => ∃ (c tr : Addr) (C : Chart) (U : List Nat), vs = [.ref c, .ref tr] ∧ IsChart K H c C ∧ C.Ok ∧ SqT K H tr (U.map vN) ∧ U.length ≤ 1000 ∧
  ∀ d L H', Same H H' → H d = none → H' d = some (.dK (lvOf L)) → Left C.n C.roads C.wished U L → Q (.ref d) H'
theorem cal_roads_left (T : Txt mg) (D : Def K mg "roads_left" s_roads_left) (c_unwished_of : Cal P w K mg base 2 "unwished_of" (sp_unwished_of K)) : Cal P w K mg base 3 "roads_left" (sp_roads_left K) := by
  refine cal_of D sc_roads_left (fun _ _ _ _ _ _ us hl => match us, hl with | [_, _], _ => rfl) (fun vs H Q E h => ?_) (fun f cdv A outer s H vs Q E hr h => ?_)
  · obtain ⟨c, tr, C, U, rfl, _⟩ := h
    rfl
  · obtain ⟨c, tr, C, U, rfl, ⟨r, wd, ts, hC⟩, ok, hT, few, q⟩ := h
    have n60 := ok.n60
    have hu := hu_of hr
    have wle := up_len ok.upW ok.inW
    refine ⟨_, (pss_cons (ps_set (i := 2) sc_roads_left.nd rfl (Or.inr rfl) (pe_callTy (show CallR _ _ (rSetI K w) from cr_setI rfl) (by rfl) T.set (by decide +kernel) (pa_cons (pv 1) pa_nil)))
      (pss_cons (ps_set (i := 3) sc_roads_left.nd rfl (Or.inr rfl) (pe_dc (own := [("place", 7)]) rfl sc_roads_left.nd (show PI _ _ _ (iTup K _) from pi_tup (pe_ix (show IxR _ (rIxT K) from ix_tup) (pv 0) pe_int (fun _ _ => rfl))) (blkOk_by (N := ["chart", "traps", "stopped", "left", "passed", "latest", "many", "place", "a", "b"]) (sc := L2.defScope s_roads_left) (by decide +kernel)) (fun _ _ _ _ _ => (pg_name (i := 7) sc_roads_left.nd rfl (Or.inl rfl))) (fun _ _ _ _ _ => pts_one (pt_cmpR (show OpR _ _ (rSNotIn w) from or_snotin) (pv 7) (pv 2) (by rfl))) (fun _ _ _ _ _ => (pv 7)) (fun _ _ _ _ _ => pe_int)))
      (pss_cons (ps_set (i := 4) sc_roads_left.nd rfl (Or.inr rfl) (pe_dc (own := [("place", 7)]) rfl sc_roads_left.nd (show PI _ _ _ (iList K _) from pi_list (pe_c c_unwished_of hr (by decide) (by rfl) (pa_cons (pv 0) pa_nil))) (blkOk_by (N := ["chart", "traps", "stopped", "left", "passed", "latest", "many", "place", "a", "b"]) (sc := L2.defScope s_roads_left) (by decide +kernel)) (fun _ _ _ _ _ => (pg_name (i := 7) sc_roads_left.nd rfl (Or.inl rfl))) (fun _ _ _ _ _ => pts_one (pt_cmpR (show OpR _ _ (rSNotIn w) from or_snotin) (pv 7) (pv 2) (by rfl))) (fun _ _ _ _ _ => (pv 7)) (fun _ _ _ _ _ => pe_bl)))
      (pss_cons (ps_set (i := 5) sc_roads_left.nd rfl (Or.inr rfl) (pe_callTy call_dictD (by rfl) T.dict (by decide +kernel) (pa_cons (pv 3) pa_nil)))
      (pss_cons (ps_set (i := 6) sc_roads_left.nd rfl (Or.inl rfl) pe_int)
      (pss_cons (ps_while PassesOwn.never (pt_truth (pv 5) (by intro _; rfl)) (pss_cons (ps_set (i := 6) sc_roads_left.nd rfl (Or.inl rfl) (pe_op op_add (pv 6) pe_int))
        (pss_cons (ps_set (i := 5) sc_roads_left.nd rfl (Or.inr rfl) (pe_dc (own := [("a", 8), ("b", 9)]) rfl sc_roads_left.nd (show PI _ _ _ (iTup K _) from pi_tup (pe_ix (show IxR _ (rIxT K) from ix_tup) (pv 0) pe_int (fun _ _ => rfl))) (blkOk_by (N := ["chart", "traps", "stopped", "left", "passed", "latest", "many", "place", "a", "b"]) (sc := L2.defScope s_roads_left) (by decide +kernel)) (fun _ _ _ _ _ => (show PG _ _ (gTup K 2 _) from pg_tup (by rfl) (pgs_cons (pg_name (i := 8) sc_roads_left.nd rfl (Or.inl rfl)) (pgs_cons (pg_name (i := 9) sc_roads_left.nd rfl (Or.inl rfl)) pgs_nil)))) (fun _ _ _ _ _ => pts_one (PW.pt (pw_and (pt_cmp (pc_din hu (pv 9) (pv 5))) (pw_and (pt_cmp (pc_din hu (pv 8) (pv 4))) (pw_and1 (pt_cmp (pc_dnotin hu (pv 8) (pv 3)))))))) (fun _ _ _ _ _ => (pv 8)) (fun _ _ _ _ _ => pe_bl)))
        (pss_one (ps_lock (ps_for PassesOwn.never rfl (pi_keys (pv 5)) (pg_name (i := 7) sc_roads_left.nd rfl (Or.inl rfl)) (pss_one (ps_dput hu (pv 3) (pv 7) (pv 6) rfl))))))))
      (pss_one (ps_ret (pv 3))))))))), ?_⟩
    refine ⟨_, rfl, tr, iN U, rfl, .inr (by rw [← vN_map]; exact hT), by rw [iN_length]; exact few, fun sp n0 hsp _ => ?_⟩
    have s1 : Same H (upd H sp (SetO w sp (fun j => decide (j ∈ iN U)) n0)) := same_upd hsp
    have hSp : (upd H sp (SetO w sp (fun j => decide (j ∈ iN U)) n0)) sp = some (SetO w sp (fun j => decide (j ∈ iN U)) n0) := upd_same
    generalize upd H sp (SetO w sp (fun j => decide (j ∈ iN U)) n0) = H1 at s1 hSp
    have hC1 := hC.same s1
    have inU : ∀ b : Nat, decide ((b : Int) ∈ iN U) = decide (b ∈ U) := fun b => decide_eq_decide.mpr iN_mem
    refine ⟨_, rfl, _, _, _, _, rfl, rfl, hC1.top, rfl, wd, rfl, ⟨_, hC1.wis⟩, fun d hd => ?_⟩
    have keep1 : ∀ {H' : Hp}, Kp [d] H1 H' → Same H1 H' := fun {H'} k b o e' => k b o (fun m => by rw [List.mem_singleton.mp m, hd] at e'; cases e') e'
    refine dc_tup (K := K) (xs := C.wished.map vN) (fun i H' => Kp [d] H1 H' ∧ H' d = some (.dK (lvOf (((C.wished.take i).filter fun b => !decide (b ∈ U)).map fun b => (b, 0)))))
      ⟨(fun b o x e' => by rw [upd_ne (ne_of_none e' hd)]; exact e'), upd_same⟩ (fun i H' _ ⟨k, _⟩ => Same.sqT (keep1 k) hC1.wis) ?_ ?_
    · rintro i x H2 hx ⟨k2, hD⟩
      obtain ⟨b, hb, rfl⟩ := get_map hx
      refine ⟨rfl, ?_⟩
      refine ⟨_, rfl, _, rfl, _, _, _, _, rfl, rfl, keep1 k2 _ _ hSp, _, rfl, ?_⟩
      rw [inU b]
      by_cases hw : b ∈ U
      · rw [decide_eq_true hw]
        refine iteF ⟨k2, ?_⟩
        rw [hD, take_more hb, List.filter_append]
        simp [hw]
      · rw [decide_eq_false hw]
        refine iteT ?_
        have fresh : b ∉ ((((C.wished.take i).filter fun b => !decide (b ∈ U)).map fun b => (b, 0)).map fun p : Nat × Nat => p.1) := by
          intro m
          obtain ⟨p, hp, e1⟩ := List.mem_map.mp m
          obtain ⟨b', hb', rfl⟩ := List.mem_map.mp hp
          have e1 : b' = b := e1
          subst e1
          obtain ⟨j', hj', e2⟩ := List.getElem_of_mem (List.mem_filter.mp hb').1
          rw [List.length_take] at hj'
          have e3 : C.wished[j']? = some b' := by
            rw [← e2, List.getElem_take]
            exact List.getElem?_eq_getElem _
          have := up_get ok.upW e3 hb (by omega)
          omega
        refine ⟨_, rfl, _, Sum.inl (b : Int), rfl, hD, ?_, ?_, ?_⟩
        · rw [lvOf_len, List.length_map]
          have h1 := List.length_filter_le (fun b => !decide (b ∈ U)) (C.wished.take i)
          have h2 : (C.wished.take i).length ≤ C.wished.length := by rw [List.length_take]; omega
          exact small1000 (by omega)
        · intro x o n e1
          rw [upd_ne (fun z => n (by rw [z]; simp))]
          exact k2 x o n e1
        · rw [upd_same]
          have e := lvOf_put _ b 0 fresh
          refine congrArg some (congrArg HO.dK (Eq.trans e ?_))
          rw [take_more hb, List.filter_append, List.map_append]
          simp [hw]
    rintro H2 ⟨k2, hD2⟩
    rw [List.take_of_length_le (by rw [List.length_map]; exact Nat.le_refl _)] at hD2
    have s2 := keep1 k2
    have hSp2 := s2 _ _ hSp
    have hC2 := hC1.same s2
    obtain ⟨W, eW⟩ : ∃ W, W = C.wished.filter fun b => !decide (b ∈ U) := ⟨_, rfl⟩
    rw [← eW] at hD2
    have ndW : W.Nodup := by
      rw [eW]
      exact (up_nodup ok.upW).filter _
    have memW : ∀ b, b ∈ W ↔ b ∈ C.wished ∧ b ∉ U := fun b => by rw [eW, List.mem_filter]; simp
    refine ⟨_, rfl, c, C, rfl, ⟨r, wd, ts, hC2⟩, ok, fun u H3 s3 hu0 hU3 => ?_⟩
    have hSp3 := s3 _ _ hSp2
    have hD3 := s3 _ _ hD2
    refine ⟨u, rfl, ⟨_, .inl (.inl hU3)⟩, fun e he => ?_⟩
    have nde : d ≠ e := ne_of_none hD3 he
    have keep3 : ∀ {H' : Hp}, Kp [e] H3 H' → Same H3 H' := fun {H'} k b o e' => k b o (fun m => by rw [List.mem_singleton.mp m, he] at e'; cases e') e'
    refine dc_it (walk_list (K := K) (a := u) (xs := (unw C).map vN)) (fun i H' => Kp [e] H3 H' ∧ H' e = some (.dK (keysOf (((unw C).take i).filter fun b => !decide (b ∈ U)))))
      ⟨(fun b o x e' => by rw [upd_ne (ne_of_none e' he)]; exact e'), by rw [upd_same]; rfl⟩ (fun i H' _ ⟨k, _⟩ => .inl (.inl (keep3 k _ _ hU3))) ?_ ?_
    · rintro i x Hx H4 hi ⟨k4, hE⟩ ⟨rfl, hx⟩
      obtain ⟨b, hb, rfl⟩ := get_map hx
      refine ⟨rfl, ?_⟩
      refine ⟨_, rfl, _, rfl, _, _, _, _, rfl, rfl, keep3 k4 _ _ hSp3, _, rfl, ?_⟩
      rw [inU b]
      by_cases hw : b ∈ U
      · rw [decide_eq_true hw]
        refine iteF ⟨k4, ?_⟩
        rw [hE, take_more hb, List.filter_append]
        simp [hw]
      · rw [decide_eq_false hw]
        refine iteT ?_
        have fresh : b ∉ ((unw C).take i).filter fun b => !decide (b ∈ U) := by
          intro m
          obtain ⟨j', hj', e2⟩ := List.getElem_of_mem (List.mem_filter.mp m).1
          rw [List.length_take] at hj'
          have e3 : (unw C)[j']? = some b := by
            rw [← e2, List.getElem_take]
            exact List.getElem?_eq_getElem _
          have := up_get (unw_up C) e3 hb (by omega)
          omega
        refine ⟨_, rfl, _, Sum.inl (b : Int), rfl, hE, ?_, ?_, ?_⟩
        · rw [keysOf_len]
          have h1 := List.length_filter_le (fun b => !decide (b ∈ U)) ((unw C).take i)
          have h2 : ((unw C).take i).length ≤ (unw C).length := by rw [List.length_take]; omega
          have h3 : (unw C).length ≤ C.n := up_len (unw_up C) fun a h => (by
            unfold unw at h
            exact List.mem_range.mp (List.mem_filter.mp h).1)
          exact small1000 (by omega)
        · intro x o n e1
          rw [upd_ne (fun z => n (by rw [z]; simp))]
          exact k4 x o n e1
        · rw [upd_same, keysOf_put _ _ fresh, take_more hb, List.filter_append]
          simp [hw]
    rintro H4 ⟨k4, hE4⟩
    rw [List.take_of_length_le (by rw [List.length_map]; exact Nat.le_refl _)] at hE4
    have s4 := keep3 k4
    obtain ⟨Ps, ePs⟩ : ∃ Ps, Ps = (unw C).filter fun b => !decide (b ∈ U) := ⟨_, rfl⟩
    rw [← ePs] at hE4
    have memP : ∀ b, b < C.n → (b ∈ Ps ↔ b ∉ C.wished ∧ b ∉ U) := fun b hb => by
      rw [ePs, List.mem_filter]
      unfold unw
      simp [List.mem_filter, List.mem_range, hb]
    have hD4 := s4 _ _ hD3
    refine ⟨_, rfl, d, _, rfl, .inl hD4, fun la0 hla0 => ?_⟩
    have s5 : Same H4 (upd H4 la0 (.dK (lvOf (W.map fun b => (b, 0))))) := same_upd hla0
    have hLa5 : (upd H4 la0 (.dK (lvOf (W.map fun b => (b, 0))))) la0 = some (.dK (lvOf (W.map fun b => (b, 0)))) := upd_same
    have nla : la0 ≠ d := (ne_of_none hD4 hla0).symm
    have hD5 := s5 _ _ hD4
    have hE5 := s5 _ _ hE4
    have s25 := (s3.trans s4).trans s5
    have hC5 := hC2.same s25
    have hd0 : H d = none := s1.free hd
    have s15 : Same H (upd H4 la0 (.dK (lvOf (W.map fun b => (b, 0))))) := s1.trans (s2.trans s25)
    generalize upd H4 la0 (.dK (lvOf (W.map fun b => (b, 0)))) = H5 at s5 hLa5 hD5 hE5 s25 hC5 s15
    have hl5 : Lists [d] H5 := fun b hb => by
      rw [List.mem_singleton.mp hb]
      exact ⟨_, hD5, (fun _ z => nomatch z), (fun _ _ z => nomatch z)⟩
    refine at_name ?_
    dsimp only
    refine at_seq ?_
    show gName 6 (V.int 0) _ _ _
    refine at_name ?_
    dsimp only
    refine at_seq ?_
    refine while_by (fun σ H' => ∃ (la : Addr) (m : Nat) (L : List (Nat × Nat)) (A : List Nat) (kvs : List (Key × V)) (v7 v8 v9 : Option V), σ = [some (.ref c), some (.ref tr), some (.ref sp), some (.ref d), some (.ref e), some (.ref la), some (vN m), v7, v8, v9] ∧ Kp [d] H5 H' ∧ H' d = some (.dK (lvOf L)) ∧ H' la = some (.dK kvs) ∧ Keyed kvs A ∧ Lefting C.n C.roads C.wished U m L A) (restOf C.n d) ?_ ?_ ?_
    · exact ⟨la0, 0, _, W, _, _, _, _, rfl, Kp.refl _ _, hD5, hLa5, keyed_zeros W, Lefting.start ok.inW ndW memW⟩
    · rintro σ H6 ⟨la, m, L, A, kvs, v7, v8, v9, rfl, k6, hD, hLa, key, lf⟩
      have off : ∀ b o, H5 b = some o → b ≠ d → H6 b = some o := fun b o e n => k6 b o (by simp [n]) e
      have hC6 : ChartAt K H6 c C r wd ts := hC5.keep k6 hl5
      have hE6 : H6 e = some (.dK (keysOf Ps)) := off _ _ hE5 nde.symm
      have Ll := lf.len
      have lenk : kvs.length = A.length := by
        have := congrArg List.length key
        rwa [List.length_map, List.length_map] at this
      refine ⟨_, rfl, _, .inr (.inr ⟨_, hLa, rfl⟩), ?_⟩
      by_cases he0 : A = []
      · have ek : kvs = [] := List.length_eq_zero_iff.mp (by rw [lenk, he0]; rfl)
        rw [ek]
        refine iteF ?_
        rw [he0] at lf
        refine ⟨_, rfl, q d L H6 (fun b o eb => off _ _ (s15 _ _ eb) (fun z => by rw [z, hd0] at eb; cases eb)) hd0 hD lf.ends⟩
      · obtain ⟨kv0, kvr, ek⟩ : ∃ kv0 kvr, kvs = kv0 :: kvr := by
          cases kvs with
          | nil => exact absurd (List.length_eq_zero_iff.mp lenk.symm) he0
          | cons a b => exact ⟨a, b, rfl⟩
        have mu0 : restOf C.n d [some (.ref c), some (.ref tr), some (.ref sp), some (.ref d), some (.ref e), some (.ref la), some (vN m), v7, v8, v9] H6 = (C.n - L.length) + 1 := by
          rw [restOf_is rfl hD hLa, lvOf_len, ek]
          simp
        have full : (!kvs.isEmpty) = true := by rw [ek]; rfl
        rw [full]
        refine iteT ?_
        refine ⟨_, rfl, _, _, rfl, rfl, ?_⟩
        refine ⟨_, rfl, _, _, _, _, rfl, rfl, hC6.top, rfl, r, rfl, ⟨_, hC6.row⟩, fun g hg => ?_⟩
        have keep6 : ∀ {H' : Hp}, Kp [g] H6 H' → Same H6 H' := fun {H'} k b o e' => k b o (fun m => by rw [List.mem_singleton.mp m, hg] at e'; cases e') e'
        refine dc_tup (K := K) (xs := ts.map V.ref) (fun i H' => ∃ B : List Nat, Kp [g] H6 H' ∧ H' g = some (.dK (keysOf B)) ∧ B.Nodup ∧ (∀ a, a ∈ B ↔ (∃ b ∈ A, (a, b) ∈ C.roads.take i) ∧ a ∉ C.wished ∧ a ∉ U ∧ a ∉ L.map (·.1)) ∧ B.length ≤ i)
          ⟨[], (fun b o x e' => by rw [upd_ne (ne_of_none e' hg)]; exact e'), by rw [upd_same]; rfl, List.nodup_nil, (fun a => by simp), Nat.le_refl _⟩ (fun i H' _ ⟨_, k, _⟩ => Same.sqT (keep6 k) hC6.row) ?_ ?_
        · rintro i x H7 hx ⟨B, k7, hG, ndB, memB, lB⟩
          obtain ⟨t, ht, rfl⟩ := get_map hx
          obtain ⟨q0, hq0, pt⟩ := paired_getL hC6.prs ht
          have i240 : i < C.roads.length := (List.getElem?_eq_some_iff.mp hq0).1
          have m240 := ok.many
          have inq := ok.inR q0 (List.mem_of_getElem? hq0)
          have no : ¬ (q0.2 ∈ A ∧ q0.1 ∉ C.wished ∧ q0.1 ∉ U ∧ q0.1 ∉ L.map (·.1)) → ∃ B : List Nat, Kp [g] H6 H7 ∧ H7 g = some (.dK (keysOf B)) ∧ B.Nodup ∧ (∀ a, a ∈ B ↔ (∃ b ∈ A, (a, b) ∈ C.roads.take (i + 1)) ∧ a ∉ C.wished ∧ a ∉ U ∧ a ∉ L.map (·.1)) ∧ B.length ≤ i + 1 := by
            intro h
            refine ⟨B, k7, hG, ndB, fun a => ?_, by omega⟩
            rw [memB a, take_more hq0]
            constructor
            · rintro ⟨⟨b, hb, hr'⟩, h2⟩
              exact ⟨⟨b, hb, List.mem_append_left _ hr'⟩, h2⟩
            · rintro ⟨⟨b, hb, hr'⟩, h2⟩
              rcases List.mem_append.mp hr' with hr' | hr'
              · exact ⟨⟨b, hb, hr'⟩, h2⟩
              · have e1 := List.mem_singleton.mp hr'
                refine absurd ?_ h
                rw [← e1]
                exact ⟨hb, h2⟩
          have gA : DGet H7 la (vN q0.2) (valV kvs (Sum.inl (q0.2 : Int) : Key)) := DGet.k (k := Sum.inl (q0.2 : Int)) (keep6 k7 _ _ hLa)
          have gP : DGet H7 e (vN q0.1) (valV (keysOf Ps) (Sum.inl (q0.1 : Int) : Key)) := DGet.k (k := Sum.inl (q0.1 : Int)) (keep6 k7 _ _ hE6)
          have gL : DGet H7 d (vN q0.1) (valV (lvOf L) (Sum.inl (q0.1 : Int) : Key)) := DGet.k (k := Sum.inl (q0.1 : Int)) (keep6 k7 _ _ hD)
          refine ⟨t, _, rfl, Same.sqT (keep6 k7) pt, rfl, _, _, rfl, _, _, rfl, rfl, rfl, ?_⟩
          refine ⟨_, rfl, _, rfl, la, _, rfl, gA, _, rfl, ?_⟩
          rw [keyed_val key]
          by_cases hA : q0.2 ∈ A
          · rw [decide_eq_true hA]
            refine iteT ?_
            refine ⟨_, rfl, _, rfl, e, _, rfl, gP, _, rfl, ?_⟩
            rw [keyed_val (keyed_keysOf Ps)]
            by_cases hP : q0.1 ∈ Ps
            · rw [decide_eq_true hP]
              refine iteT ?_
              refine ⟨_, rfl, _, rfl, d, _, rfl, gL, _, rfl, ?_⟩
              by_cases hL : q0.1 ∈ L.map (·.1)
              · obtain ⟨k0, hk0⟩ := key_mem.mp hL
                rw [lvOf_some L _ k0 lf.nd hk0]
                exact iteF (no fun h => h.2.2.2 hL)
              · rw [lvOf_none L _ hL]
                refine iteT ?_
                have hPw := (memP _ inq.1).mp hP
                by_cases hB : q0.1 ∈ B
                · refine ⟨_, rfl, _, Sum.inl (q0.1 : Int), rfl, hG, by rw [keysOf_len]; exact small1000 (by omega), B, ?_, by rw [upd_same, keysOf_again B _ hB], ndB, fun a => ?_, by omega⟩
                  · intro b o nb eb
                    rw [upd_ne (fun z => nb (by rw [z]; simp))]
                    exact k7 b o nb eb
                  · rw [memB a, take_more hq0]
                    constructor
                    · rintro ⟨⟨b, hb, hr'⟩, h2⟩
                      exact ⟨⟨b, hb, List.mem_append_left _ hr'⟩, h2⟩
                    · rintro ⟨⟨b, hb, hr'⟩, h2⟩
                      rcases List.mem_append.mp hr' with hr' | hr'
                      · exact ⟨⟨b, hb, hr'⟩, h2⟩
                      · have e1 := List.mem_singleton.mp hr'
                        have e2 : a = q0.1 := by rw [← e1]
                        rw [e2]
                        exact (memB _).mp hB
                · refine ⟨_, rfl, _, Sum.inl (q0.1 : Int), rfl, hG, by rw [keysOf_len]; exact small1000 (by omega), B ++ [q0.1], ?_, by rw [upd_same, keysOf_put _ _ hB], ?_, fun a => ?_, by rw [List.length_append]; exact Nat.succ_le_succ lB⟩
                  · intro b o nb eb
                    rw [upd_ne (fun z => nb (by rw [z]; simp))]
                    exact k7 b o nb eb
                  · rw [List.nodup_append]
                    exact ⟨ndB, by simp, fun x hx y hy z => hB (by rw [← List.mem_singleton.mp hy, ← z]; exact hx)⟩
                  · rw [List.mem_append, List.mem_singleton, memB a, take_more hq0]
                    constructor
                    · rintro (⟨⟨b, hb, hr'⟩, h2⟩ | e2)
                      · exact ⟨⟨b, hb, List.mem_append_left _ hr'⟩, h2⟩
                      · rw [e2]
                        exact ⟨⟨q0.2, hA, List.mem_append_right _ (List.mem_singleton.mpr rfl)⟩, hPw.1, hPw.2, hL⟩
                    · rintro ⟨⟨b, hb, hr'⟩, h2⟩
                      rcases List.mem_append.mp hr' with hr' | hr'
                      · exact .inl ⟨⟨b, hb, hr'⟩, h2⟩
                      · have e1 := List.mem_singleton.mp hr'
                        exact .inr (by rw [← e1])
            · rw [decide_eq_false hP]
              exact iteF (no fun h => hP ((memP _ inq.1).mpr ⟨h.2.1, h.2.2.1⟩))
          · rw [decide_eq_false hA]
            exact iteF (no fun h => hA h.1)
        rintro H7 ⟨B, k7, hG, ndB, memB, lB⟩
        rw [List.length_map, Paired.length hC6.prs] at memB
        rw [List.take_of_length_le (Nat.le_refl _)] at memB
        have s7 := keep6 k7
        have lf' := lf.step ok.inR ndB memB
        have L'l := lf'.len
        have hD7 := s7 _ _ hD
        have ndg : d ≠ g := ne_of_none hD hg
        refine ⟨g, _, hG, trivial, fun od => ?_⟩
        refine ⟨_, rfl, g, od, rfl, .inl ⟨keysOf B, upd_same, ?_⟩⟩
        refine for_it walk_keys (fun i σ H' => ∃ (v7 : Option V), σ = [some (.ref c), some (.ref tr), some (.ref sp), some (.ref d), some (.ref e), some (.ref g), some (vN (m + 1)), v7, v8, v9] ∧ H' g = some (.frz od (.dK (keysOf B))) ∧ Kp [d] (upd H7 g (.frz od (.dK (keysOf B)))) H' ∧ H' d = some (.dK (lvOf (L ++ (B.take i).map fun a => (a, m + 1)))))
          ⟨_, rfl, upd_same, Kp.refl _ _, by rw [upd_ne ndg]; simpa using hD7⟩ (fun i σ H' _ ⟨_, _, h, _⟩ => h) ?_ ?_
        · rintro i x σ Hx H8 hi ⟨v7', rfl, hG8, k8, hD8⟩ ⟨rfl, kk, vv, hk, rfl⟩
          obtain ⟨b, hb, ekv⟩ : ∃ b, B[i]? = some b ∧ (kk, vv) = ((Sum.inl (b : Int) : Key), V.bl true) := by
            unfold keysOf at hk
            obtain ⟨b, h1, h2⟩ := get_map hk
            exact ⟨b, h1, h2⟩
          have ekk : kk = (Sum.inl (b : Int) : Key) := congrArg Prod.fst ekv
          subst ekk
          have fresh : b ∉ (L ++ (B.take i).map fun a => (a, m + 1)).map (·.1) := by
            intro hm
            rw [List.map_append, List.map_map] at hm
            rcases List.mem_append.mp hm with hm | hm
            · exact ((memB b).mp (List.mem_of_getElem? hb)).2.2.2 hm
            · obtain ⟨y, hy, e1⟩ := List.mem_map.mp hm
              have e1 : y = b := e1
              subst e1
              obtain ⟨j', hj', e2⟩ := List.getElem_of_mem hy
              rw [List.length_take] at hj'
              have e3 : B[j']? = some y := by
                rw [← e2, List.getElem_take]
                exact List.getElem?_eq_getElem _
              have := nodup_inj ndB e3 hb
              omega
          have il : i < B.length := (List.getElem?_eq_some_iff.mp hb).1
          have Bl : L.length + B.length ≤ C.n := by
            have := L'l
            rw [List.length_append, List.length_map] at this
            exact this
          refine ⟨_, rfl, _, rfl, _, rfl, d, _, rfl, DPut.k (k := Sum.inl (b : Int)) hD8 (by rw [lvOf_len, List.length_append, List.length_map, List.length_take]; exact small1000 (by omega)), _, rfl, by rw [upd_ne ndg.symm]; exact hG8, ?_, ?_⟩
          · intro z o nz ez
            rw [upd_ne (fun y => nz (by rw [y]; simp))]
            exact k8 z o nz ez
          · rw [upd_same]
            have e := lvOf_put _ b (m + 1) fresh
            refine congrArg some (congrArg HO.dK (Eq.trans e ?_))
            rw [take_more hb, List.map_append, List.append_assoc]
            rfl
        · rintro σ H8 ⟨v7', rfl, hG8, k8, hD8⟩
          rw [keysOf_len, List.take_of_length_le (Nat.le_refl _)] at hD8
          have hD9 : (upd H8 g (.dK (keysOf B))) d = some (.dK (lvOf (L ++ B.map fun a => (a, m + 1)))) := by rw [upd_ne ndg]; exact hD8
          have hG9 : (upd H8 g (.dK (keysOf B))) g = some (.dK (keysOf B)) := upd_same
          refine ⟨hG8, ⟨g, m + 1, _, B, keysOf B, _, _, _, rfl, ?_, hD9, hG9, keyed_keysOf B, lf'⟩, ?_⟩
          · intro b o nb eb
            have e6 := k6 b o nb eb
            have nbg : b ≠ g := ne_of_none e6 hg
            rw [upd_ne nbg]
            refine k8 b o nb ?_
            rw [upd_ne nbg]
            exact s7 _ _ e6
          · rw [mu0, restOf_is rfl hD9 hG9, lvOf_len, List.length_append, List.length_map]
            rw [List.length_append, List.length_map] at L'l
            by_cases hB : B = []
            · rw [hB]
              simp [keysOf]
            · have : 0 < B.length := List.length_pos_iff.mpr hB
              have hk : keysOf B ≠ [] := fun z => hB (by
                unfold keysOf at z
                exact List.map_eq_nil_iff.mp z)
              rw [if_neg hk]
              omega
    · rintro σ H' Q1 Q2 hQ ⟨v, e, k, tr, q1⟩
      exact ⟨v, e, k, tr, hQ _ _ q1⟩
end
end Ft

set_option Elab.async false
set_option linter.all false
set_option maxRecDepth 100000
set_option maxHeartbeats 4000000
namespace Ft
open PySem PySem.Spec PyProof.Rows L2
/-! ### the least of tuples of ints -/
theorem rows_alikeD (L : List Row) : PySem.W.AlikeAll (L.map encR) := by
  refine ⟨fun x hx y hy => ?_, fun x hx => ?_⟩
  · obtain ⟨b, _, rfl⟩ := List.mem_map.mp hx
    obtain ⟨b', _, rfl⟩ := List.mem_map.mp hy
    show PySem.W.alike (.tuple (b.2.map .int)) (.tuple (b'.2.map .int)) = true
    simp only [PySem.W.alike]
    exact PySem.W.alike_ints _ _
  · obtain ⟨b, _, rfl⟩ := List.mem_map.mp hx
    exact fun e => nomatch e
theorem lt_rows (p q : Row) : PySem.W.dataLt (encR q) (encR p) = decide (q.2 < p.2) := by
  show PySem.W.dataLt (.tuple (q.2.map .int)) (.tuple (p.2.map .int)) = _
  rw [PySem.W.dataLt_tuple]
  have e := PySem.W.dataLt_ints q.2 p.2
  unfold PySem.W.rowLt at e
  exact e
theorem minD_rows : ∀ (L : List Row) (p : Row), ∃ r, r ∈ p :: L ∧ PySem.W.minD (encR p) (L.map encR) = encR r ∧ ∀ q ∈ p :: L, r.2 ≤ q.2
  | [], p => ⟨p, List.mem_cons_self, rfl, fun q hq => by rw [List.mem_singleton.mp hq]; exact List.le_refl _⟩
  | x :: L, p => by
    have e : PySem.W.minD (encR p) ((x :: L).map encR) = PySem.W.minD (if PySem.W.dataLt (encR x) (encR p) then encR x else encR p) (L.map encR) := rfl
    rw [e, lt_rows]
    by_cases h : x.2 < p.2
    · rw [if_pos (decide_eq_true h)]
      obtain ⟨r, h1, h2, h3⟩ := minD_rows L x
      refine ⟨r, List.mem_cons_of_mem _ h1, h2, fun q hq => ?_⟩
      rcases List.mem_cons.mp hq with e | hq
      · rw [e]
        exact List.le_trans (h3 x List.mem_cons_self) (List.le_of_lt h)
      · exact h3 q hq
    · rw [if_neg (by simpa using h)]
      obtain ⟨r, h1, h2, h3⟩ := minD_rows L p
      refine ⟨r, ?_, h2, fun q hq => ?_⟩
      · rcases List.mem_cons.mp h1 with e | h1
        · exact e ▸ List.mem_cons_self
        · exact List.mem_cons_of_mem _ (List.mem_cons_of_mem _ h1)
      · rcases List.mem_cons.mp hq with e | hq
        · exact h3 q (e ▸ List.mem_cons_self)
        · rcases List.mem_cons.mp hq with e | hq
          · rw [e]
            exact List.le_trans (h3 p List.mem_cons_self) (List.not_lt.mp h)
          · exact h3 q (List.mem_cons_of_mem _ hq)
theorem encR_inj {p q : Row} (h : encR p = encR q) : p.2 = q.2 := by
  unfold encR at h
  injection h with h
  have : ∀ (l1 l2 : List Int), l1.map PyData.int = l2.map PyData.int → l1 = l2 := by
    intro l1
    induction l1 with
    | nil =>
      intro l2 e
      cases l2 with
      | nil => rfl
      | cons b l2 => simp at e
    | cons a l1 ih =>
      intro l2 e
      cases l2 with
      | nil => simp at e
      | cons b l2 =>
        rw [List.map_cons, List.map_cons] at e
        injection e with e1 e2
        injection e1 with e1
        rw [e1, ih l2 e2]
  exact this _ _ h
def rMinR (K : PySem.W.Frag) : List V → Hp → VK → Prop := fun vs H Q => ∃ (a : Addr) (L : List Row), vs = [V.ref a] ∧ SqL K H a (L.map fun p => V.ref p.1) ∧ (∀ p ∈ L, SqT K H p.1 (p.2.map V.int)) ∧ L ≠ [] ∧
  ∀ r ∈ L, (∀ q ∈ L, r.2 ≤ q.2) → Q (.ref r.1) H
theorem rows_dp {K : PySem.W.Frag} {H : Hp} : ∀ {L : List Row}, (∀ p ∈ L, SqT K H p.1 (p.2.map V.int)) → DpAll K H (L.map fun p => V.ref p.1) (L.map encR)
  | [], _ => .nil
  | p :: L, h => .cons (.tup (h p List.mem_cons_self) (dpAll_ints p.2)) (rows_dp fun q hq => h q (List.mem_cons_of_mem _ hq))
theorem rows_depth (L : List Row) : PyData.depthAll (L.map encR) ≤ 1 := by
  induction L with
  | nil => simp [PyData.depthAll]
  | cons p L ih =>
    have e : (encR p).depth = 1 := by
      show PyData.depth (.tuple (p.2.map .int)) = 1
      simp only [PyData.depth, PySem.W.depth_ints]
    rw [List.map_cons]
    simp only [PyData.depthAll, e]
    omega
theorem cr_minR {X : Cx} (hc : X.calm = true) (hu : X.A.units + 64 < cLine) : CallR X (.builtin "min") (rMinR X.K) := by
  intro pins s σ H xs us Q I r h
  obtain ⟨a, L, rfl, hl, hk, hne, q⟩ := h
  rw [Vals.ref1 r]
  obtain ⟨its, rv, pl, hz⟩ := I.list hl
  obtain ⟨as, rd⟩ := Dp.readsAll I _ _ its (rows_dp hk) rv
  have ei : its = L.map fun p => Value.ref p.1 := refs_of_vals rv
  obtain ⟨p, L0, rfl⟩ : ∃ p L0, L = p :: L0 := by
    cases L with
    | nil => exact absurd rfl hne
    | cons p L0 => exact ⟨p, L0, rfl⟩
  obtain ⟨rb, hb1, hb2, hb3⟩ := minD_rows L0 p
  have dd := rows_depth (p :: L0)
  refine PySem.W.min_list_data (vs := its.toArray) (x := encR p) (xs := L0.map encR) (as := as) (I.ok.hd hc) pl.isList (by simpa using rd) (rows_alikeD (p :: L0)) (by
    have : PyData.depthAll (encR p :: L0.map encR) ≤ 1 := dd
    omega) fun i v h' tk bs hv rm hold => ?_
  have hv' : its[i]? = some v := by simpa using hv
  rw [ei, List.getElem?_map] at hv'
  cases eg : (p :: L0)[i]? with
  | none =>
    rw [eg] at hv'
    cases hv'
  | some rr =>
    rw [eg] at hv'
    have ev : v = Value.ref rr.1 := (Option.some.inj hv').symm
    have hm : rr ∈ p :: L0 := List.mem_of_getElem? eg
    obtain ⟨as', rd'⟩ := Dp.reads I (encR rr) (.ref rr.1) (.ref rr.1) (.tup (hk rr hm) (dpAll_ints rr.2)) rfl
    rw [ev] at rm
    have e := (reads_det (fun b o e _ => hold b o e) rd' rm).1
    rw [hb2] at e
    have e2 := encR_inj e
    subst ev
    exact ⟨.ref rr.1, H, I.kept hold, rfl, q rr hm fun q' hq' => by rw [← e2]; exact hb3 q' hq'⟩
end Ft

set_option Elab.async false
set_option linter.all false
set_option maxRecDepth 100000
set_option maxHeartbeats 8000000
namespace Ft
open PySem PySem.Spec PyProof.Rows L2
/-- some place of S has a road to a place that is numbered -/
def Starts (rs : List (Nat × Nat)) (S : List Nat) (L : List (Nat × Nat)) : Prop := ∃ a ∈ S, ∃ b k, (a, b) ∈ rs ∧ (b, k) ∈ L
def countOf (σ : L2.St) : Nat := match σ[6]? with
  | some (some (V.int i)) => (i + 1).toNat
  | _ => 0
theorem dget_lv {H : Hp} {d : Addr} {L : List (Nat × Nat)} (hD : H d = some (.dK (lvOf L))) (b : Nat) : DGet H d (vN b) (valV (lvOf L) (Sum.inl (b : Int) : Key)) := DGet.k (k := Sum.inl (b : Int)) hD
/-- from p on, k roads left behind the next one: at each step the least place with that number -/
inductive Leads (rs L : List (Nat × Nat)) : Nat → Int → List Nat → Prop
  | stop (p : Nat) : Leads rs L p (-1) []
  | go {p k x : Nat} {l : List Nat} : (p, x) ∈ rs → (x, k) ∈ L → (∀ y, (p, y) ∈ rs → (y, k) ∈ L → x ≤ y) → Leads rs L x ((k : Int) - 1) l → Leads rs L p k (x :: l)
/-- the walk that missed tells -/
def Best (rs : List (Nat × Nat)) (S : List Nat) (L : List (Nat × Nat)) (wk : List Nat) : Prop := ∃ k a l, wk = a :: l ∧ a ∈ S ∧ (∃ b, (a, b) ∈ rs ∧ (b, k) ∈ L) ∧ (∀ a' b' k', a' ∈ S → (a', b') ∈ rs → (b', k') ∈ L → k < k' ∨ (k = k' ∧ a ≤ a')) ∧ Leads rs L a (k : Int) l
theorem le_two {k a k' a' : Nat} (h : iN [k, a] ≤ iN [k', a']) : k < k' ∨ (k = k' ∧ a ≤ a') := by
  have h2 : ([(k : Int), (a : Int)] : List Int) ≤ [(k' : Int), (a' : Int)] := h
  rw [List.cons_le_cons_iff, List.cons_le_cons_iff] at h2
  omega
/-- what a function of a map and two lots owes -/
def DueLL (K : PySem.W.Frag) (ca : Str → Addr) (H : Hp) (E : XK) (dc dt dl : PyData) (ok : Chart → List Nat → List Nat → Prop) : Prop :=
  (∀ x i, mapErr dc = some (x, i) → Raised K ca H E (x, .int i)) ∧ ∀ C, dc = chartD C → C.Ok → (lotOk C.n dt = false ∨ lotOk C.n dl = false → Raised K ca H E ("BadLot", .int (-1))) ∧
    ∀ U S, dt = lotD U → dl = lotD S → (∀ x ∈ U, x < C.n) → U.Pairwise (· < ·) → (∀ x ∈ S, x < C.n) → S.Pairwise (· < ·) → ok C U S
section
variable {P : Program} {w : World} {K : PySem.W.Frag} {mg : Str → Option Value} {base : Heap} {ca : Str → Addr}
/-! ### missed -/
def spX_missed (K : PySem.W.Frag) (ca : Str → Addr) : Sp := fun vs H Q E => ∃ (vc vt vl : V) (dc dt dl : PyData), vs = [vc, vt, vl] ∧ Dp K H vc dc ∧ Dp K H vt dt ∧ Dp K H vl dl ∧ DueLL K ca H E dc dt dl fun C U S =>
  ∀ v L H', Same H H' → Left C.n C.roads C.wished U L → (¬ Starts C.roads S L → v = .non) → (Starts C.roads S L → ∃ t wk, v = .ref t ∧ SqT K H' t (wk.map vN) ∧ Best C.roads S L wk) → Q v H'
theorem cal_missed (T : Txt mg) (D : Def K mg "missed" s_missed) (c_made_map : CalX P w K mg base 5 "made_map" (spX_made_map K ca)) (c_check_lot : CalX P w K mg base 5 "check_lot" (spX_check_lot K ca)) (c_roads_left : Cal P w K mg base 3 "roads_left" (sp_roads_left K)) (c_roads_from : Cal P w K mg base 2 "roads_from" (sp_roads_from K)) :
    CalX P w K mg base 6 "missed" (spX_missed K ca) := by
  refine calx_of D sc_missed (fun _ _ _ _ _ _ us hl => match us, hl with | [_, _, _], _ => rfl) (fun vs H Q E h => ?_) (fun f cdv A outer s H vs Q E hr h => ?_)
  · obtain ⟨vc, vt, vl, dc, dt, dl, rfl, _⟩ := h
    rfl
  · obtain ⟨vc, vt, vl, dc, dt, dl, rfl, hdc, hdt, hdl, q1, q2⟩ := h
    have hu := hu_of hr
    have hU := hr.units
    refine ⟨_, (pss_cons (ps_expr (pe_x (takes_of rfl rfl rfl rfl) c_made_map hr (by decide) (by rfl) (pa_cons (pv 0) pa_nil)))
      (pss_cons (ps_expr (pe_x (takes_of rfl rfl rfl rfl) c_check_lot hr (by decide) (by rfl) (pa_cons (pv 0) (pa_cons (pv 1) pa_nil))))
      (pss_cons (ps_expr (pe_x (takes_of rfl rfl rfl rfl) c_check_lot hr (by decide) (by rfl) (pa_cons (pv 0) (pa_cons (pv 2) pa_nil))))
      (pss_cons (ps_set (i := 3) sc_missed.nd rfl (Or.inr rfl) (pe_c c_roads_left hr (by decide) (by rfl) (pa_cons (pv 0) (pa_cons (pv 1) pa_nil))))
      (pss_cons (ps_set (i := 4) sc_missed.nd rfl (Or.inr rfl) (pe_c c_roads_from hr (by decide) (by rfl) (pa_cons (pv 0) pa_nil)))
      (pss_cons (ps_setLc2 (i := 5) (own := [("a", 9), ("b", 10)]) (vs1 := [10]) rfl sc_missed.nd rfl rfl (sw_true rfl rfl rfl (by decide +kernel)) (show PI _ _ _ (iTup K _) from pi_tup (pv 2)) (blkOk_by (N := ["chart", "traps", "lot", "left", "targets", "starts", "many", "place", "walk", "a", "b"]) (sc := L2.defScope s_missed) (by decide +kernel)) (by decide) (fun _ _ _ _ _ => (pg_name (i := 9) sc_missed.nd rfl (Or.inl rfl))) (fun _ _ _ _ _ => pts_nil) (fun _ _ _ _ _ => (show PI _ _ _ (iList K _) from pi_list (pe_ix (show IxR _ (rIxL K) from ix_list) (pv 4) (pv 9) (fun _ _ => rfl)))) (fun _ _ _ _ _ => (pg_name (i := 10) sc_missed.nd rfl (Or.inl rfl))) (fun _ _ _ _ _ => pts_one (pt_cmp (pc_din hu (pv 10) (pv 3)))) (fun _ _ _ _ _ => (pe_tup (pa_cons (pe_dget hu (pv 3) (pv 10) (fun _ _ => rfl)) (pa_cons (pv 9) pa_nil)))))
      (pss_cons (ps_if (pt_not (pt_truth (pv 5) (by intro _; rfl))) (pss_one (ps_ret pe_non)) pss_nil)
      (pss_cons (ps_asg (pe_callB (show CallR _ _ (rMinR K) from cr_minR rfl hU) (by rfl) T.min (by decide +kernel) (pa_cons (pv 5) pa_nil)) (show PG _ _ (gTup K 2 _) from pg_tup (by rfl) (pgs_cons (pg_name (i := 6) sc_missed.nd rfl (Or.inr rfl)) (pgs_cons (pg_name (i := 7) sc_missed.nd rfl (Or.inl rfl)) pgs_nil))))
      (pss_cons (ps_set (i := 8) sc_missed.nd rfl (Or.inl rfl) (pe_lst (pa_cons (pv 7) pa_nil)))
      (pss_cons (ps_while (passes_of rfl) (pt_cmpR op_ge (pv 6) pe_int (nomark _)) (pss_cons (ps_set (i := 7) sc_missed.nd rfl (Or.inl rfl) (pe_callB (show CallR _ _ (rMin K) from cr_min rfl) (by rfl) T.min (by decide +kernel) (pa_cons (pe_lc (own := [("b", 10)]) rfl sc_missed.nd (show PI _ _ _ (iList K _) from pi_list (pe_ix (show IxR _ (rIxL K) from ix_list) (pv 4) (pv 7) (fun _ _ => rfl))) (blkOk_by (N := ["chart", "traps", "lot", "left", "targets", "starts", "many", "place", "walk", "a", "b"]) (sc := L2.defScope s_missed) (by decide +kernel)) (fun _ _ _ _ _ => (pg_name (i := 10) sc_missed.nd rfl (Or.inl rfl))) (fun _ _ _ _ _ => pts_one (pt_cmpR op_eq (pe_dget1 hu (pv 3) (pv 10) ⟨rfl, rfl, rfl, rfl⟩) (pv 6) (nomark _))) (fun _ _ _ _ _ => (pv 10))) pa_nil)))
        (pss_cons (ps_expr (pe_bm PySem.F.plainAttrs_list PySem.F.slot_list_append PySem.F.type_list_append mt_append (pv 8) (pa_cons (pv 7) pa_nil)))
        (pss_one (ps_set (i := 6) sc_missed.nd rfl (Or.inr rfl) (pe_op op_sub (pv 6) pe_int))))))
      (pss_one (ps_ret (pe_callTy (show CallR _ _ (rTupleOf K) from call_tupleOf) (by rfl) T.tuple (by decide +kernel) (pa_cons (pv 8) pa_nil)))))))))))))), ?_⟩
    refine ⟨_, rfl, vc, dc, rfl, hdc, fun em c C c' H1 ev ec ok s1 _ => ?_, fun x i em => q1 x i em⟩
    subst ev ec
    obtain ⟨qe, qo⟩ := q2 C rfl ok
    obtain ⟨c0, e0, r, wd, ts, hC⟩ := chart_dp hdc
    cases e0
    refine ⟨_, rfl, _, rfl, c, r, wd, C.n, vt, dt, rfl, (hC.same s1).top, Dp.same s1 hdt, fun okT H2 s2 => ?_, fun bad => Raised.same (qe (.inl bad)) s1⟩
    have s02 := s1.trans s2
    refine ⟨_, rfl, _, rfl, c, r, wd, C.n, vl, dl, rfl, (hC.same s02).top, Dp.same s02 hdl, fun okL H3 s3 => ?_, fun bad => Raised.same (qe (.inr bad)) s02⟩
    have s03 := s02.trans s3
    obtain ⟨U, rfl, upU, inU⟩ := lotOk_is okT
    obtain ⟨S, rfl, upS, inS⟩ := lotOk_is okL
    have q := qo U S rfl rfl inU upU inS upS
    obtain ⟨tr, rfl, hT⟩ := lot_dp hdt
    obtain ⟨lo, rfl, hS⟩ := lot_dp hdl
    have n60 := ok.n60
    have hu := hu_of hr
    have hU := hr.units
    have Ul := up_len upU inU
    have Sl := up_len upS inS
    refine ⟨_, rfl, _, rfl, c, tr, C, U, rfl, ⟨r, wd, ts, hC.same s03⟩, ok, Same.sqT s03 hT, by omega, fun d L H4 s4 _ hD4 lf => ?_⟩
    have s04 := s03.trans s4
    refine ⟨_, rfl, c, C, rfl, ⟨r, wd, ts, hC.same s04⟩, ok, fun g ls H5 s5 el hL => ?_⟩
    have s05 := s04.trans s5
    have hD5 := s5 _ _ hD4
    have hS5 := Same.sqT s05 hS
    have Lk : ∀ b k, (b, k) ∈ L → k < 60 := fun b k h => by have := lf.many k b h; omega
    have Llen : L.length ≤ C.n := by
      have := len_of_lt (L.map (·.1)) C.n lf.nd fun x hx => by
        obtain ⟨p, hp, rfl⟩ := List.mem_map.mp hx
        exact (lf.lt p hp).1
      rwa [List.length_map] at this
    refine ⟨_, rfl, lo, rfl, ⟨_, hS5⟩, fun st hst => ?_⟩
    have keep5 : ∀ {H' : Hp}, Kp [st] H5 H' → Same H5 H' := fun {H'} k b o e' => k b o (fun m => by rw [List.mem_singleton.mp m, hst] at e'; cases e') e'
    refine by_turns (walk_tup (K := K) (a := lo) (xs := S.map vN)) (fun i H' => ∃ R : List Row, Kp [st] H5 H' ∧ H' st = some (.lst (R.map fun p => V.ref p.1)) ∧ (∀ p ∈ R, H' p.1 = some (.tup (p.2.map V.int))) ∧ (∀ p ∈ R, ∃ a ∈ S, ∃ b k, (a, b) ∈ C.roads ∧ (b, k) ∈ L ∧ p.2 = iN [k, a]) ∧ (∀ a ∈ S.take i, ∀ b k, (a, b) ∈ C.roads → (b, k) ∈ L → ∃ p ∈ R, p.2 = iN [k, a]) ∧ R.length ≤ i * 240)
      ⟨[], (fun b o x e' => by rw [upd_ne (ne_of_none e' hst)]; exact e'), upd_same, (fun _ h => nomatch h), (fun _ h => nomatch h), (fun a h => by simp at h), Nat.zero_le _⟩ (fun i H' _ ⟨_, k, _⟩ => Same.sqT (keep5 k) hS5) ?_ ?_
    · rintro i x Hx H6 hi ⟨R, k6, hR, tupR, fromR, toR, lR⟩ ⟨rfl, hx⟩
      obtain ⟨a, ha, rfl⟩ := get_map hx
      have haS := List.mem_of_getElem? ha
      have han := inS a haS
      have iS : i < S.length := (List.getElem?_eq_some_iff.mp ha).1
      obtain ⟨l, hl⟩ : ∃ l, ls[a]? = some l := ⟨_, List.getElem?_eq_getElem (by rw [el]; exact han)⟩
      have keep6 := keep5 k6
      have hG6 : H6 g = some (.lst (ls.map V.ref)) := keep6 _ _ hL.top
      have hl6 : H6 l = some (.lst ((succs C.roads a).map vN)) := keep6 _ _ (hL.each a l hl)
      have nst : ∀ {b : Addr} {o : HO}, H5 b = some o → b ≠ st := fun e => ne_of_none e hst
      refine ⟨rfl, ?_⟩
      refine ⟨_, rfl, _, rfl, g, _, _, _, rfl, rfl, .inl (.inl hG6), atI_nat (v := V.ref l) (by rw [List.getElem?_map, hl]; rfl), l, rfl, ⟨_, .inl (.inl hl6)⟩, ?_⟩
      have m240 := ok.many
      have sl := succs_len C.roads a
      refine by_turns (walk_list (K := K) (a := l) (xs := (succs C.roads a).map vN)) (fun j H' => ∃ R : List Row, Kp [st] H5 H' ∧ H' st = some (.lst (R.map fun p => V.ref p.1)) ∧ (∀ p ∈ R, H' p.1 = some (.tup (p.2.map V.int))) ∧ (∀ p ∈ R, ∃ a ∈ S, ∃ b k, (a, b) ∈ C.roads ∧ (b, k) ∈ L ∧ p.2 = iN [k, a]) ∧ (∀ a ∈ S.take i, ∀ b k, (a, b) ∈ C.roads → (b, k) ∈ L → ∃ p ∈ R, p.2 = iN [k, a]) ∧ (∀ b ∈ (succs C.roads a).take j, ∀ k, (b, k) ∈ L → ∃ p ∈ R, p.2 = iN [k, a]) ∧ R.length ≤ i * 240 + j)
        ⟨R, k6, hR, tupR, fromR, toR, (fun b h => by simp at h), lR⟩ (fun j H' _ ⟨_, k, _⟩ => .inl (.inl (keep5 k _ _ (hL.each a l hl)))) ?_ ?_
      · rintro j y Hy H7 hj ⟨R7, k7, hR7, tup7, from7, to7, toj7, l7⟩ ⟨rfl, hy⟩
        obtain ⟨b, hb, rfl⟩ := get_map hy
        have hbr : (a, b) ∈ C.roads := succs_mem.mp (List.mem_of_getElem? hb)
        have jl : j < (succs C.roads a).length := (List.getElem?_eq_some_iff.mp hb).1
        have hD7 := keep5 k7 _ _ hD5
        have gL := dget_lv hD7 b
        refine ⟨rfl, ?_⟩
        refine ⟨_, rfl, _, rfl, d, _, rfl, gL, _, rfl, ?_⟩
        by_cases hbL : b ∈ L.map (·.1)
        · obtain ⟨k, hk⟩ := key_mem.mp hbL
          rw [lvOf_some L _ k lf.nd hk] at gL ⊢
          refine iteT ?_
          refine ⟨_, rfl, _, rfl, d, _, rfl, gL, _, rfl, by show 2 ≤ sizeLine; decide, fun t ht => ?_⟩
          have s8 : Same H7 (upd H7 t (.tup [vN k, vN a])) := same_upd ht
          have hT8 : (upd H7 t (.tup [vN k, vN a])) t = some (.tup ((iN [k, a]).map V.int)) := upd_same
          have hR8 := s8 _ _ hR7
          have nt : ∀ p ∈ R7, (upd H7 t (.tup [vN k, vN a])) p.1 = some (.tup (p.2.map V.int)) := fun p hp => s8 _ _ (tup7 p hp)
          have k8 : Kp [st] H5 (upd H7 t (.tup [vN k, vN a])) := k7.trans (Same.kp s8)
          generalize upd H7 t (.tup [vN k, vN a]) = H8 at s8 hT8 hR8 nt k8
          have big : (20000 : Nat) < sizeLine := by decide
          refine ⟨_, hR8, by rw [List.length_map]; omega, R7 ++ [(t, iN [k, a])], ?_, by rw [upd_same, List.map_append]; rfl, ?_, ?_, ?_, ?_, by rw [List.length_append]; exact Nat.succ_le_succ l7⟩
          · intro x o nx ex
            rw [upd_ne (fun z => nx (by rw [z]; simp))]
            exact k8 x o nx ex
          · intro p hp
            have off : ∀ z, H8 z = some (.tup (p.2.map V.int)) → z ≠ st := fun z hz e => by rw [e, hR8] at hz; cases hz
            rcases List.mem_append.mp hp with hp | hp
            · rw [upd_ne (off _ (nt p hp))]
              exact nt p hp
            · have ep := List.mem_singleton.mp hp
              subst ep
              rw [upd_ne (off _ hT8)]
              exact hT8
          · intro p hp
            rcases List.mem_append.mp hp with hp | hp
            · exact from7 p hp
            · rw [List.mem_singleton.mp hp]
              exact ⟨a, haS, b, k, hbr, hk, rfl⟩
          · intro a' ha' b' k' h1 h2
            obtain ⟨p, hp, e⟩ := to7 a' ha' b' k' h1 h2
            exact ⟨p, List.mem_append_left _ hp, e⟩
          · intro b' hb' k' hk'
            rw [take_more hb] at hb'
            rcases List.mem_append.mp hb' with hb' | hb'
            · obtain ⟨p, hp, e⟩ := toj7 b' hb' k' hk'
              exact ⟨p, List.mem_append_left _ hp, e⟩
            · rw [List.mem_singleton.mp hb'] at hk'
              rw [lf.one hk' hk]
              exact ⟨(t, iN [k, a]), List.mem_append_right _ (List.mem_singleton.mpr rfl), rfl⟩
        · rw [lvOf_none L _ hbL]
          refine iteF ⟨R7, k7, hR7, tup7, from7, to7, fun b' hb' k hk => ?_, by omega⟩
          rw [take_more hb] at hb'
          rcases List.mem_append.mp hb' with hb' | hb'
          · exact toj7 b' hb' k hk
          · rw [List.mem_singleton.mp hb'] at hk
            exact absurd (key_mem.mpr ⟨k, hk⟩) hbL
      · rintro H7 ⟨R7, k7, hR7, tup7, from7, to7, toj7, l7⟩
        rw [List.length_map] at l7
        rw [List.take_of_length_le (by rw [List.length_map]; exact Nat.le_refl _)] at toj7
        refine ⟨R7, k7, hR7, tup7, from7, fun a' ha' b k hr' hk => ?_, by omega⟩
        rw [take_more ha] at ha'
        rcases List.mem_append.mp ha' with ha' | ha'
        · exact to7 a' ha' b k hr' hk
        · rw [List.mem_singleton.mp ha'] at hr' ⊢
          exact toj7 b (succs_mem.mpr hr') k hk
    rintro H6 ⟨R, k6, hR, tupR, fromR, toR, lR⟩
    rw [List.take_of_length_le (by rw [List.length_map]; exact Nat.le_refl _)] at toR
    have s6 := keep5 k6
    have s06 := s05.trans s6
    have hD6 := s6 _ _ hD5
    refine ⟨_, rfl, _, .inl ⟨_, .inl (.inl hR), rfl⟩, ?_⟩
    cases R with
    | nil =>
      refine iteT ?_
      exact q .non L H6 s06 lf (fun _ => rfl) (fun ⟨a, ha, b, k, h1, h2⟩ => let ⟨_, hp, _⟩ := toR a ha b k h1 h2; nomatch hp)
    | cons r0 R0 =>
      refine iteF ?_
      have st1 : Starts C.roads S L := by
        obtain ⟨a, ha, b, k, h1, h2, _⟩ := fromR r0 List.mem_cons_self
        exact ⟨a, ha, b, k, h1, h2⟩
      refine ⟨_, rfl, st, r0 :: R0, rfl, .inl (.inl hR), (fun p hp => .inl (.inl (tupR p hp))), (fun z => nomatch z), fun rr hrr least => ?_⟩
      obtain ⟨a, haS, b, k, hab, hbk, err⟩ := fromR rr hrr
      have least' : ∀ a' b' k', a' ∈ S → (a', b') ∈ C.roads → (b', k') ∈ L → k < k' ∨ (k = k' ∧ a ≤ a') := fun a' b' k' h1 h2 h3 => by
        obtain ⟨p, hp, e⟩ := toR a' h1 b' k' h2 h3
        have z := least p hp
        rw [e, err] at z
        exact le_two z
      have hrow := tupR rr hrr
      rw [err] at hrow
      refine ⟨rr.1, _, rfl, .inl (.inl hrow), rfl, _, _, rfl, _, _, rfl, rfl, ?_⟩
      refine ⟨_, rfl, by show 1 ≤ sizeLine; decide, fun wk hwk => ?_⟩
      have s7 : Same H6 (upd H6 wk (.lst [V.int (a : Int)])) := same_upd hwk
      have hW7 : (upd H6 wk (.lst [V.int (a : Int)])) wk = some (.lst ([a].map vN)) := upd_same
      have hD7 := s7 _ _ hD6
      have s07 := s06.trans s7
      have hL7 : LotsAt (upd H6 wk (.lst [V.int (a : Int)])) g ls (succs C.roads) := ⟨s7 _ _ (s6 _ _ hL.top), fun x l e => s7 _ _ (s6 _ _ (hL.each x l e))⟩
      have nwd : d ≠ wk := ne_of_none hD6 hwk
      have hwk0 : H wk = none := s06.free hwk
      have offW : ∀ {b : Addr} {o : HO}, H6 b = some o → b ≠ wk := fun e => ne_of_none e hwk
      refine at_name ?_
      dsimp only
      refine at_seq ?_
      have rest : ∀ H', Kp [wk] (upd H6 wk (.lst [V.int (a : Int)])) H' → Same H H' := fun H' kk z o ez => by
        have e6 := s06 _ _ ez
        refine kk z o (fun m => offW e6 (List.mem_singleton.mp m)) ?_
        rw [upd_ne (offW e6)]
        exact e6
      generalize upd H6 wk (.lst [V.int (a : Int)]) = H7 at s7 hW7 hD7 s07 hL7 rest
      refine while_by (fun σ H' => ∃ (mm : Int) (p : Nat) (ww : List Nat) (v9 v10 : Option V), σ = [some (.ref c), some (.ref tr), some (.ref lo), some (.ref d), some (.ref g), some (.ref st), some (.int mm), some (vN p), some (.ref wk), v9, v10] ∧ Kp [wk] H7 H' ∧ H' wk = some (.lst (ww.map vN)) ∧ p < C.n ∧
        (mm = -1 ∨ ∃ k b : Nat, mm = (k : Int) ∧ (p, b) ∈ C.roads ∧ (b, k) ∈ L) ∧ (ww.length : Int) + mm ≤ 100 ∧ ∃ pre, ww = a :: pre ∧ ∀ l, Leads C.roads L p mm l → Leads C.roads L a k (pre ++ l)) (fun σ _ => countOf σ) ?_ ?_ ?_
      · refine ⟨k, a, [a], _, _, rfl, Kp.refl _ _, hW7, inS a haS, .inr ⟨k, b, rfl, hab, hbk⟩, ?_⟩
        refine ⟨?_, [], rfl, fun l h => h⟩
        have := Lk b k hbk
        simp
        omega
      · rintro σ H8 ⟨mm, p, ww, v9, v10, rfl, k8, hW8, hp, kind, cap, pre, epre, lead⟩
        refine ⟨_, rfl, _, _, rfl, rfl, _, rfl, ?_⟩
        rcases kind with e1 | ⟨k', b', rfl, hpb, hbk'⟩
        · subst e1
          refine iteF ?_
          refine ⟨_, rfl, wk, _, rfl, .inl ⟨.inl (.inl hW8), fun t ht => ?_⟩⟩
          exact q (.ref t) L _ ((rest _ k8).trans (same_upd ht)) lf (fun n => absurd st1 n) (fun _ => ⟨t, ww, rfl, .inl (.inl upd_same), k, a, pre, epre, haS, ⟨b, hab, hbk⟩, least', by have z := lead [] (.stop p); rwa [List.append_nil] at z⟩)
        · show if decide ((k' : Int) ≥ 0) = true then _ else _
          rw [decide_eq_true (show (k' : Int) ≥ 0 by omega)]
          refine iteT ?_
          obtain ⟨l, hl⟩ : ∃ l, ls[p]? = some l := ⟨_, List.getElem?_eq_getElem (by rw [el]; exact hp)⟩
          have keep8 : ∀ z o, H7 z = some o → z ≠ wk → H8 z = some o := fun z o e n => k8 z o (by simp [n]) e
          have hg0 : g ≠ wk := offW (s6 _ _ hL.top)
          have hl0 : l ≠ wk := offW (s6 _ _ (hL.each p l hl))
          have hG8 := keep8 _ _ hL7.top hg0
          have hl8 := keep8 _ _ (hL7.each p l hl) hl0
          have hD8 := keep8 _ _ hD7 nwd
          refine ⟨_, rfl, _, rfl, g, _, _, _, rfl, rfl, .inl (.inl hG8), atI_nat (v := V.ref l) (by rw [List.getElem?_map, hl]; rfl), l, rfl, ⟨_, .inl (.inl hl8)⟩, fun e he => ?_⟩
          have keep9 : ∀ {H' : Hp}, Kp [e] H8 H' → Same H8 H' := fun {H'} k b o e' => k b o (fun m => by rw [List.mem_singleton.mp m, he] at e'; cases e') e'
          have m240 := ok.many
          have sl := succs_len C.roads p
          refine lc_list (K := K) (xs := (succs C.roads p).map vN) (fun j H' => ∃ F : List Nat, Kp [e] H8 H' ∧ H' e = some (.lst (F.map vN)) ∧ F.length ≤ j ∧ (∀ x ∈ F, (p, x) ∈ C.roads ∧ (x, k') ∈ L) ∧ ∀ x ∈ (succs C.roads p).take j, (x, k') ∈ L → x ∈ F)
            ⟨[], (fun z o x e' => by rw [upd_ne (ne_of_none e' he)]; exact e'), upd_same, Nat.le_refl _, (fun _ h => nomatch h), fun x h => by simp at h⟩ (fun j H' _ ⟨_, k, _⟩ => .inl (.inl (keep9 k _ _ hl8))) ?_ ?_
          · rintro j y H9 hy ⟨F, k9, hE, lF, inF, toF⟩
            obtain ⟨x, hx, rfl⟩ := get_map hy
            have jl : j < (succs C.roads p).length := (List.getElem?_eq_some_iff.mp hx).1
            have hpx : (p, x) ∈ C.roads := succs_mem.mp (List.mem_of_getElem? hx)
            have hD9 := keep9 k9 _ _ hD8
            have gL := dget_lv hD9 x
            have no : (x, k') ∉ L → ∃ F : List Nat, Kp [e] H8 H9 ∧ H9 e = some (.lst (F.map vN)) ∧ F.length ≤ j + 1 ∧ (∀ x ∈ F, (p, x) ∈ C.roads ∧ (x, k') ∈ L) ∧ ∀ x ∈ (succs C.roads p).take (j + 1), (x, k') ∈ L → x ∈ F := fun h => by
              refine ⟨F, k9, hE, by omega, inF, fun z hz hzL => ?_⟩
              rw [take_more hx] at hz
              rcases List.mem_append.mp hz with hz | hz
              · exact toF z hz hzL
              · rw [List.mem_singleton.mp hz] at hzL
                exact absurd hzL h
            refine ⟨rfl, ?_⟩
            refine ⟨_, rfl, d, rfl, .inl ⟨_, .inl hD9⟩, _, rfl, _, gL, _, rfl, ?_⟩
            by_cases hxL : x ∈ L.map (·.1)
            · obtain ⟨kx, hkx⟩ := key_mem.mp hxL
              rw [lvOf_some L _ kx lf.nd hkx]
              refine ⟨rfl, _, rfl, ite_any (fun h => ?_) (fun h => ?_)⟩
              · have e1 : kx = k' := by
                  have := of_decide_eq_true h
                  have z : (kx : Int) = k' := V.int.inj this
                  omega
                rw [e1] at hkx
                refine ⟨_, rfl, _, hE, by rw [List.length_map]; exact small1000 (by omega), F ++ [x], ?_, by rw [upd_same, List.map_append]; rfl, by rw [List.length_append]; exact Nat.succ_le_succ lF, ?_, ?_⟩
                · intro z o nz ez
                  rw [upd_ne (fun y => nz (by rw [y]; simp))]
                  exact k9 z o nz ez
                · intro z hz
                  rcases List.mem_append.mp hz with hz | hz
                  · exact inF z hz
                  · rw [List.mem_singleton.mp hz]
                    exact ⟨hpx, hkx⟩
                · intro z hz hzL
                  rw [take_more hx] at hz
                  rcases List.mem_append.mp hz with hz | hz
                  · exact List.mem_append_left _ (toF z hz hzL)
                  · exact List.mem_append_right _ hz
              · refine no fun hm => ?_
                have := of_decide_eq_false h
                exact this (by rw [lf.one hkx hm]; rfl)
            · rw [lvOf_none L _ hxL]
              refine ⟨rfl, _, rfl, ite_any (fun h => absurd (of_decide_eq_true h) (fun z => nomatch z)) (fun _ => no fun hm => hxL (key_mem.mpr ⟨k', hm⟩))⟩
          · rintro H9 ⟨F, k9, hE, lF, inF, toF⟩
            rw [List.take_of_length_le (by rw [List.length_map]; exact Nat.le_refl _)] at toF
            have bF := toF b' (succs_mem.mpr hpb) hbk'
            refine ⟨e, iN F, rfl, .inl (.inl (by rw [← vN_map]; exact hE)), by rw [iN_length]; exact List.length_pos_of_mem bF, fun mi hmi lem => ?_⟩
            obtain ⟨x, hx, rfl⟩ : ∃ x ∈ F, (x : Int) = mi := by
              unfold iN at hmi
              obtain ⟨x, hx, e1⟩ := List.mem_map.mp hmi
              exact ⟨x, hx, e1⟩
            obtain ⟨hpx, hxk⟩ := inF x hx
            have hW9 := keep9 k9 _ _ hW8
            have k'60 := Lk x k' hxk
            refine ⟨_, rfl, .inl ⟨rfl, _, .inl (.inl hW9)⟩, _, rfl, wk, _, _, rfl, rfl, hW9, by rw [List.length_map]; exact small1000 (by omega), ?_⟩
            refine ⟨_, rfl, _, _, rfl, rfl, ⟨(k' : Int) - 1, x, ww ++ [x], _, _, rfl, ?_, by rw [upd_same, List.map_append]; rfl, (lf.lt _ hxk).1, ?_, ?_⟩, ?_⟩
            · intro z o nz ez
              have nz' : z ≠ wk := fun y => nz (by rw [y]; simp)
              rw [upd_ne nz']
              exact keep9 k9 _ _ (k8 z o nz ez)
            · cases k' with
              | zero => exact .inl rfl
              | succ k'' =>
                obtain ⟨_, c2, h1, h2⟩ := lf.succ x k'' hxk
                exact .inr ⟨k'', c2, by omega, h1, h2⟩
            · refine ⟨?_, pre ++ [x], by rw [epre]; rfl, fun l hl => ?_⟩
              · rw [List.length_append]
                show ((ww.length + 1 : Nat) : Int) + ((k' : Int) - 1) ≤ 100
                omega
              · rw [List.append_assoc]
                refine lead _ (.go hpx hxk (fun y h1 h2 => ?_) hl)
                have z := lem (y : Int) (iN_mem.mpr (toF y (succs_mem.mpr h1) h2))
                omega
            · show ((k' : Int) - 1 + 1).toNat < ((k' : Int) + 1).toNat
              omega
      · rintro σ H' Q1 Q2 hQ ⟨v, e, i, j, e1, e2, b, e3, q1⟩
        exact ⟨v, e, i, j, e1, e2, b, e3, hQ _ _ q1⟩
theorem DueLL.valid {K : PySem.W.Frag} {ca : Str → Addr} {H : Hp} {E : XK} {C : Chart} {U S : List Nat} {ok : Chart → List Nat → List Nat → Prop} (o : C.Ok) (inU : ∀ x ∈ U, x < C.n) (upU : U.Pairwise (· < ·)) (inS : ∀ x ∈ S, x < C.n) (upS : S.Pairwise (· < ·)) (q : ok C U S) : DueLL K ca H E (chartD C) (lotD U) (lotD S) ok := by
  refine ⟨fun x i h => ?_, fun C' e _ => ⟨fun h => ?_, fun U' S' e1 e2 _ _ _ _ => ?_⟩⟩
  · rw [mapErr_chart o] at h
    cases h
  · rw [← chartD_inj e, lotOk_lot upU inU, lotOk_lot upS inS] at h
    rcases h with h | h <;> cases h
  · rw [← chartD_inj e, ← lotD_inj e1, ← lotD_inj e2]
    exact q
def sp_missed (K : PySem.W.Frag) : Sp := fun vs H Q _ => ∃ (c tr lo : Addr) (C : Chart) (U S : List Nat), vs = [.ref c, .ref tr, .ref lo] ∧ IsChart K H c C ∧ C.Ok ∧ SqT K H tr (U.map vN) ∧ (∀ x ∈ U, x < C.n) ∧ U.Pairwise (· < ·) ∧ SqT K H lo (S.map vN) ∧ (∀ x ∈ S, x < C.n) ∧ S.Pairwise (· < ·) ∧
  ∀ v L H', Same H H' → Left C.n C.roads C.wished U L → (¬ Starts C.roads S L → v = .non) → (Starts C.roads S L → ∃ t wk, v = .ref t ∧ SqT K H' t (wk.map vN) ∧ Best C.roads S L wk) → Q v H'
theorem calv_missed (c_missed : CalX P w K mg base 6 "missed" (spX_missed K ca)) : Cal P w K mg base 6 "missed" (sp_missed K) :=
  c_missed.valid fun vs H Q E ⟨c, tr, lo, C, U, S, e, isC, ok, hT, inU, upU, hS, inS, upS, q⟩ => ⟨_, _, _, _, _, _, e, dp_chart isC, dp_lot hT, dp_lot hS, .valid ok inU upU inS upS q⟩
end
end Ft

set_option Elab.async false
set_option linter.all false
set_option maxRecDepth 100000
set_option maxHeartbeats 8000000
namespace Ft
open PySem PySem.Spec PyProof.Rows L2
section
variable {P : Program} {w : World} {K : PySem.W.Frag} {mg : Str → Option Value} {base : Heap} {ca : Str → Addr}
/-! ### cuts -/
def spX_cuts (K : PySem.W.Frag) (ca : Str → Addr) : Sp := fun vs H Q E => ∃ (vc vt vl : V) (dc dt dl : PyData), vs = [vc, vt, vl] ∧ Dp K H vc dc ∧ Dp K H vt dt ∧ Dp K H vl dl ∧ DueLL K ca H E dc dt dl fun C U S =>
  ∀ (b : Bool) L H', Same H H' → Left C.n C.roads C.wished U L → (b = true ↔ ¬ Starts C.roads S L) → Q (.bl b) H'
theorem cal_cuts (T : Txt mg) (D : Def K mg "cuts" s_cuts) (c_missed : CalX P w K mg base 6 "missed" (spX_missed K ca)) : CalX P w K mg base 7 "cuts" (spX_cuts K ca) := by
  refine calx_of D sc_cuts (fun _ _ _ _ _ _ us hl => match us, hl with | [_, _, _], _ => rfl) (fun vs H Q E h => ?_) (fun f cdv A outer s H vs Q E hr h => ?_)
  · obtain ⟨vc, vt, vl, dc, dt, dl, rfl, _⟩ := h
    rfl
  · obtain ⟨vc, vt, vl, dc, dt, dl, rfl, hdc, hdt, hdl, q1, q2⟩ := h
    refine ⟨_, (pss_one (ps_ret (pe_cmpR op_isN (pe_x (takes_of rfl rfl rfl rfl) c_missed hr (by decide) (by rfl) (pa_cons (pv 0) (pa_cons (pv 1) (pa_cons (pv 2) pa_nil)))) pe_non (nomark _)))), ?_⟩
    refine ⟨_, rfl, _, rfl, _, rfl, vc, vt, vl, dc, dt, dl, rfl, hdc, hdt, hdl, q1, fun C ec ok => ⟨(q2 C ec ok).1, fun U S e1 e2 inU upU inS upS v L H1 s1 lf h1 h2 => ⟨rfl, ?_⟩⟩⟩
    refine (q2 C ec ok).2 U S e1 e2 inU upU inS upS _ L H1 s1 lf ?_
    rw [decide_eq_true_eq]
    constructor
    · intro e st
      obtain ⟨t, _, e2, _⟩ := h2 st
      rw [e2] at e
      cases e
    · exact h1
def sp_cuts (K : PySem.W.Frag) : Sp := fun vs H Q _ => ∃ (c tr lo : Addr) (C : Chart) (U S : List Nat), vs = [.ref c, .ref tr, .ref lo] ∧ IsChart K H c C ∧ C.Ok ∧ SqT K H tr (U.map vN) ∧ (∀ x ∈ U, x < C.n) ∧ U.Pairwise (· < ·) ∧ SqT K H lo (S.map vN) ∧ (∀ x ∈ S, x < C.n) ∧ S.Pairwise (· < ·) ∧
  ∀ (b : Bool) L H', Same H H' → Left C.n C.roads C.wished U L → (b = true ↔ ¬ Starts C.roads S L) → Q (.bl b) H'
theorem calv_cuts (c_cuts : CalX P w K mg base 7 "cuts" (spX_cuts K ca)) : Cal P w K mg base 7 "cuts" (sp_cuts K) :=
  c_cuts.valid fun vs H Q E ⟨c, tr, lo, C, U, S, e, isC, ok, hT, inU, upU, hS, inS, upS, q⟩ => ⟨_, _, _, _, _, _, e, dp_chart isC, dp_lot hT, dp_lot hS, .valid ok inU upU inS upS q⟩
end
end Ft

set_option Elab.async false
set_option linter.all false
set_option maxRecDepth 100000
set_option maxHeartbeats 8000000
namespace Ft
open PySem PySem.Spec PyProof.Rows L2
section
variable {P : Program} {w : World} {K : PySem.W.Frag} {mg : Str → Option Value} {base : Heap} {t1 t2 : Tok}
/-! ### _law_way_reached -/
def sp_law_way_reached (K : PySem.W.Frag) : Sp := fun vs H Q _ => ∃ (c tr lo : Addr) (C : Chart) (U S : List Nat), vs = [.ref c, .ref tr, .ref lo] ∧ IsChart K H c C ∧ C.Ok ∧ SqT K H tr (U.map vN) ∧ SqT K H lo (S.map vN) ∧ S.length ≤ 60 ∧
  ∀ (q : Addr) (F : List Nat) (H' : Hp), Same H H' → H' q = some (.lst (F.map vN)) → F.length ≤ 60 → (∀ x, x ∈ F ↔ x < C.n ∧ ∃ a ∈ S, Reach (past C.roads U) C.wished a x) → Q (.ref q) H'
theorem cal_law_way_reached (T : Txt mg) (D : Def K mg "_law_way_reached" s_law_way_reached) : Cal P w K mg base 2 "_law_way_reached" (sp_law_way_reached K) := by
  refine cal_of D sc_law_way_reached (fun _ _ _ _ _ _ us hl => match us, hl with | [_, _, _], _ => rfl) (fun vs H Q E h => ?_) (fun f cdv A outer s H vs Q E hr h => ?_)
  · obtain ⟨c, tr, lo, C, U, S, rfl, _⟩ := h
    rfl
  · obtain ⟨c, tr, lo, C, U, S, rfl, ⟨r, wd, ts, hC⟩, ok, hT, hS, S60, q⟩ := h
    have n60 := ok.n60
    have m240 := ok.many
    have hU := hr.units
    refine ⟨_, (pss_cons (ps_par (i := 3) (j := 4) (by rfl) sc_law_way_reached.nd rfl rfl (by decide) rfl rfl (pa_cons (pe_callTy (show CallR _ _ (rListOf K) from call_listOf) (by rfl) T.list (by decide +kernel) (pa_cons (pv 2) pa_nil)) (pa_cons (pe_lst pa_nil) pa_nil)) (by rfl))
      (pss_cons (ps_for PassesOwn.never rfl (pi_range1 (by rfl) T.range (pa_cons (pe_op op_add (pe_ix (show IxR _ (rIxT K) from ix_tup) (pv 0) pe_int (fun _ _ => rfl)) pe_int) pa_nil)) (pg_name (i := 5) sc_law_way_reached.nd rfl (Or.inl rfl)) (pss_cons (ps_set (i := 6) sc_law_way_reached.nd rfl (Or.inl rfl) (pe_lst pa_nil))
        (pss_cons (ps_for PassesOwn.never rfl (show PI _ _ _ (iTup K _) from pi_tup (pe_ix (show IxR _ (rIxT K) from ix_tup) (pv 0) pe_int (fun _ _ => rfl))) (show PG _ _ (gTup K 2 _) from pg_tup (by rfl) (pgs_cons (pg_name (i := 7) sc_law_way_reached.nd rfl (Or.inl rfl)) (pgs_cons (pg_name (i := 8) sc_law_way_reached.nd rfl (Or.inl rfl)) pgs_nil))) (pss_one (ps_if (PW.pt (pw_and (pt_cmpR (show OpR _ _ (rIn K false) from op_in_seq) (pv 7) (pv 3) (by rfl)) (pw_and (pt_cmpR (show OpR _ _ (rIn K true) from op_notIn_seq) (pv 8) (pv 1) (by rfl)) (pw_and1 (pt_cmpR (show OpR _ _ (rIn K true) from op_notIn_seq) (pv 8) (pv 4) (by rfl)))))) (pss_cons (ps_expr (pe_bm PySem.F.plainAttrs_list PySem.F.slot_list_append PySem.F.type_list_append mt_append (pv 4) (pa_cons (pv 8) pa_nil)))
            (pss_one (ps_if (pt_cmpR (show OpR _ _ (rIn K true) from op_notIn_seq) (pv 8) (pe_ix (show IxR _ (rIxT K) from ix_tup) (pv 0) pe_int (fun _ _ => rfl)) (by rfl)) (pss_one (ps_expr (pe_bm PySem.F.plainAttrs_list PySem.F.slot_list_append PySem.F.type_list_append mt_append (pv 6) (pa_cons (pv 8) pa_nil)))) pss_nil))) pss_nil)))
        (pss_cons (ps_set (i := 3) sc_law_way_reached.nd rfl (Or.inl rfl) (pv 6))
        (pss_one (ps_if (pt_cmpR (show OpR _ _ (rEqD K) from op_eqD hU) (pv 3) (pe_lst pa_nil) (nomark _)) (pss_one ps_break) pss_nil))))))
      (pss_one (ps_ret (pe_callB (show CallR _ _ (rSortedI K) from cr_sortedI) (by rfl) T.sorted (by decide +kernel) (pa_cons (pv 4) pa_nil)))))), ?_⟩
    refine ⟨_, rfl, lo, _, rfl, .inr hS, fun l0 hl0 => ?_⟩
    have s1 : Same H (upd H l0 (.lst (S.map vN))) := same_upd hl0
    have hL1 : (upd H l0 (.lst (S.map vN))) l0 = some (.lst (S.map vN)) := upd_same
    generalize upd H l0 (.lst (S.map vN)) = H1 at s1 hL1
    refine ⟨Nat.zero_le _, fun m hm => ?_⟩
    have s2 : Same H1 (upd H1 m (.lst [])) := same_upd hm
    have hM2 : (upd H1 m (.lst [])) m = some (.lst []) := upd_same
    have hm0 : H m = none := s1.free hm
    have nml : l0 ≠ m := ne_of_none hL1 hm
    generalize upd H1 m (.lst []) = H2 at s2 hM2
    have s12 := s1.trans s2
    refine ⟨_, _, rfl, ?_⟩
    have n1 : ((C.n : Int) + 1).toNat = C.n + 1 := by omega
    have hm2 : Lists [m] H2 := fun b hb => by
      rw [List.mem_singleton.mp hb]
      exact ⟨_, hM2, (fun _ z => nomatch z), (fun _ _ z => nomatch z)⟩
    have hC2 := hC.same s12
    have hT2 := Same.sqT s12 hT
    refine ⟨_, rfl, _, _, _, _, rfl, rfl, hC2.top, rfl, _, _, rfl, rfl, _, rfl, by show -2 ^ 62 ≤ (C.n : Int) + 1; omega, by show (C.n : Int) + 1 < 2 ^ 62; omega, for_range (lo := 0) (n := ((C.n : Int) + 1).toNat) (fun i σ H' => ∃ (wa : Addr) (F W : List Nat) (v5 v6 v7 v8 : Option V), σ = [some (.ref c), some (.ref tr), some (.ref lo), some (.ref wa), some (.ref m), v5, v6, v7, v8] ∧ Kp [m] H2 H' ∧
      H' m = some (.lst (F.map vN)) ∧ H' wa = some (.lst (W.map vN)) ∧ wa ≠ m ∧ LayS C.n (past C.roads U) C.wished S F W ∧ i ≤ F.length) ?_ ?_ ?_⟩
    · exact ⟨l0, [], S, _, _, _, _, rfl, Kp.refl _ _, hM2, s2 _ _ hL1, nml, LayS.start, Nat.zero_le _⟩
    · rintro i σ H3 hi ⟨wa, F, W, v5, v6, v7, v8, rfl, k3, hM3, hW3, nwm, ly, cnt⟩
      have Fl := len_of_lt F C.n ly.nd ly.lt
      have hC3 : ChartAt K H3 c C r wd ts := hC2.keep k3 hm2
      have hT3 : SqT K H3 tr (U.map vN) := k3.sqT hm2 hT2
      refine ⟨Nat.zero_le _, fun g hg => ?_⟩
      have s4 : Same H3 (upd H3 g (.lst [])) := same_upd hg
      have hG4 : (upd H3 g (.lst [])) g = some (.lst []) := upd_same
      have nmg : m ≠ g := ne_of_none hM3 hg
      have nwg : wa ≠ g := ne_of_none hW3 hg
      have hM4 := s4 _ _ hM3
      have hW4 := s4 _ _ hW3
      have hC4 := hC3.same s4
      have hT4 := Same.sqT s4 hT3
      generalize upd H3 g (.lst []) = H4 at s4 hG4 hM4 hW4 hC4 hT4
      have hl4 : Lists [m, g] H4 := fun b hb => by
        rcases List.mem_cons.mp hb with e | hb
        · rw [e]
          exact ⟨_, hM4, (fun _ z => nomatch z), (fun _ _ z => nomatch z)⟩
        · rw [List.mem_singleton.mp hb]
          exact ⟨_, hG4, (fun _ z => nomatch z), (fun _ _ z => nomatch z)⟩
      refine ⟨_, rfl, _, _, _, _, rfl, rfl, hC4.top, rfl, r, rfl, ⟨_, hC4.row⟩, for_it (walk_tup (K := K) (a := r) (xs := ts.map V.ref)) (fun j σ H' => ∃ (G Z : List Nat) (v7 v8 : Option V), σ = [some (.ref c), some (.ref tr), some (.ref lo), some (.ref wa), some (.ref m), some (.int (0 + (i : Nat))), some (.ref g), v7, v8] ∧ Kp [m, g] H4 H' ∧ H' m = some (.lst (G.map vN)) ∧ H' g = some (.lst (Z.map vN)) ∧ Turn C.n C.roads U C.wished S F W j G Z)
        ⟨F, [], _, _, rfl, Kp.refl _ _, hM4, hG4, Turn.start ly⟩ (fun j σ H' _ ⟨_, _, _, _, _, k, _⟩ => k.sqT hl4 hC4.row) ?_ ?_⟩
      · rintro j x σ Hx H5 hj ⟨G, Z, v7, v8, rfl, k5, hM5, hG5, tn⟩ ⟨rfl, hx⟩
        obtain ⟨t, ht, rfl⟩ := get_map hx
        obtain ⟨q0, hq0, pt⟩ := paired_getL hC4.prs ht
        have pt5 := k5.sqT hl4 pt
        have hC5 : ChartAt K H5 c C r wd ts := hC4.keep k5 hl4
        have hT5 := k5.sqT hl4 hT4
        have hW5 := k5 _ _ (by simp [nwm, nwg]) hW4
        have Gl := len_of_lt G C.n tn.nd tn.lt
        have Zl := tn.more
        refine ⟨t, _, rfl, pt5, rfl, _, _, rfl, _, _, rfl, rfl, ?_⟩
        have pass : (q0.1 ∈ W → q0.2 ∉ U → q0.2 ∈ G) → ∃ (G Z : List Nat) (v7 v8 : Option V), [some (.ref c), some (.ref tr), some (.ref lo), some (.ref wa), some (.ref m), some (.int (0 + (i : Nat))), some (.ref g), some (vN q0.1), some (vN q0.2)] = [some (.ref c), some (.ref tr), some (.ref lo), some (.ref wa), some (.ref m), some (.int (0 + (i : Nat))), some (.ref g), v7, v8] ∧ Kp [m, g] H4 H5 ∧ H5 m = some (.lst (G.map vN)) ∧ H5 g = some (.lst (Z.map vN)) ∧ Turn C.n C.roads U C.wished S F W (j + 1) G Z := fun no =>
          ⟨G, Z, _, _, rfl, k5, hM5, hG5, tn.pass hq0 no⟩
        refine ⟨_, rfl, _, rfl, wa, _, rfl, .inl (.inl (.inl hW5)), rfl, all_vN W, _, rfl, ?_⟩
        show if inV (vN q0.1) (W.map vN) = true then _ else _
        rw [in_vN]
        by_cases h1 : q0.1 ∈ W
        · rw [decide_eq_true h1]
          refine iteT ?_
          refine ⟨_, rfl, _, rfl, tr, _, rfl, .inr hT5, rfl, all_vN U, _, rfl, ?_⟩
          show if (!inV (vN q0.2) (U.map vN)) = true then _ else _
          rw [in_vN]
          by_cases h2 : q0.2 ∈ U
          · rw [decide_eq_true h2]
            exact iteF (pass fun _ n => absurd h2 n)
          · rw [decide_eq_false h2]
            refine iteT ?_
            refine ⟨_, rfl, _, rfl, m, _, rfl, .inl (.inl (.inl hM5)), rfl, all_vN G, _, rfl, ?_⟩
            show if (!inV (vN q0.2) (G.map vN)) = true then _ else _
            rw [in_vN]
            by_cases h3 : q0.2 ∈ G
            · rw [decide_eq_true h3]
              exact iteF (pass fun _ _ => h3)
            · rw [decide_eq_false h3]
              refine iteT ?_
              have tn' := tn.add ly ok.inR hq0 h1 h2 h3
              refine ⟨_, rfl, .inl ⟨rfl, _, .inl (.inl hM5)⟩, _, rfl, m, _, _, rfl, rfl, hM5, by rw [List.length_map]; exact small1000 (by omega), ?_⟩
              have k6 : Kp [m, g] H4 (upd H5 m (.lst (G.map vN ++ [vN q0.2]))) := fun b o nb eb => by
                rw [upd_ne (fun z => nb (by rw [z]; simp))]
                exact k5 b o nb eb
              have hM6 : (upd H5 m (.lst (G.map vN ++ [vN q0.2]))) m = some (.lst ((G ++ [q0.2]).map vN)) := by
                rw [upd_same, List.map_append]
                rfl
              have hG6 : (upd H5 m (.lst (G.map vN ++ [vN q0.2]))) g = some (.lst (Z.map vN)) := by
                rw [upd_ne nmg.symm]
                exact hG5
              generalize upd H5 m (.lst (G.map vN ++ [vN q0.2])) = H6 at k6 hM6 hG6
              have hC6 : ChartAt K H6 c C r wd ts := hC4.keep k6 hl4
              refine ⟨_, rfl, _, rfl, _, _, _, _, rfl, rfl, hC6.top, rfl, wd, _, rfl, .inr hC6.wis, rfl, all_vN C.wished, _, rfl, ?_⟩
              show if (!inV (vN q0.2) (C.wished.map vN)) = true then _ else _
              rw [in_vN]
              by_cases h4 : q0.2 ∈ C.wished
              · rw [decide_eq_true h4]
                rw [if_pos h4] at tn'
                exact iteF ⟨_, _, _, _, rfl, k6, hM6, hG6, tn'⟩
              · rw [decide_eq_false h4]
                rw [if_neg h4] at tn'
                refine iteT ?_
                refine ⟨_, rfl, .inl ⟨rfl, _, .inl (.inl hG6)⟩, _, rfl, g, _, _, rfl, rfl, hG6, by rw [List.length_map]; exact small1000 (by omega), ?_⟩
                refine ⟨_, _, _, _, rfl, ?_, by rw [upd_ne nmg]; exact hM6, by rw [upd_same, List.map_append]; rfl, tn'⟩
                intro b o nb eb
                rw [upd_ne (fun z => nb (by rw [z]; simp))]
                exact k6 b o nb eb
        · rw [decide_eq_false h1]
          exact iteF (pass fun h => absurd h h1)
      · rintro σ H5 ⟨G, Z, v7, v8, rfl, k5, hM5, hG5, tn⟩
        rw [List.length_map, Paired.length hC4.prs] at tn
        have ly' := tn.done ly
        have Zl := tn.more
        refine ⟨_, rfl, ?_⟩
        refine ⟨_, rfl, Nat.zero_le _, fun z hz => ?_⟩
        have s6 : Same H5 (upd H5 z (.lst [])) := same_upd hz
        have hM6 := s6 _ _ hM5
        have hG6 := s6 _ _ hG5
        have k6 : Kp [m] H2 (upd H5 z (.lst [])) := fun b o nb eb => by
          have e3 := k3 b o nb eb
          refine s6 _ _ (k5 b o (fun hb => ?_) (s4 _ _ e3))
          rcases List.mem_cons.mp hb with e | hb
          · exact nb (by rw [e]; simp)
          · rw [List.mem_singleton.mp hb, hg] at e3
            cases e3
        refine ⟨.list ((iN Z).map .int), .list [], .lst (.inl (.inl hG6)) (by rw [vN_map]; exact dpAll_ints _), .lst (.inl (.inl upd_same)) .nil, ints_shaped _, rfl, _, rfl, ite_any (fun hc => ?_) (fun hc => ?_)⟩
        · have e0 : Z = [] := by
            cases Z with
            | nil => rfl
            | cons b Z => exact absurd hc (by simp [iN, PyData.eqv, PyData.eqvAll])
          rw [e0] at ly'
          refine ⟨_, rfl, m, iN G, rfl, .inl (.inl (by rw [← vN_map]; exact hM6)), fun ns' pq pm' pw hpq => ?_⟩
          obtain ⟨l, el, upl, ml⟩ := sorted_iN ly'.nd pm' pw
          refine q pq l _ (fun b o eb => ?_) (by rw [upd_same, el, vN_map]; rfl) ?_ fun x => (ml x).trans (ly'.ends x)
          · have e2 := s12 _ _ eb
            have nbm : b ≠ m := fun z => by rw [z, hm0] at eb; cases eb
            have e6 := k6 b o (by simp [nbm]) e2
            rw [upd_ne (ne_of_none e6 hpq)]
            exact e6
          · have := up_len upl fun x hx => ly'.lt x ((ml x).mp hx)
            omega
        · have ne : Z ≠ [] := fun e0 => by
            rw [e0] at hc
            exact absurd hc (by simp [iN, PyData.eqv, PyData.eqvAll])
          refine ⟨g, G, Z, _, _, _, _, rfl, k6, hM6, hG6, nmg.symm, ly', ?_⟩
          have : 0 < Z.length := List.length_pos_iff.mpr ne
          omega
    · rintro σ H3 ⟨wa, F, W, v5, v6, v7, v8, rfl, k3, hM3, hW3, nwm, ly, cnt⟩
      have Fl := len_of_lt F C.n ly.nd ly.lt
      rw [n1] at cnt
      omega
/-! ### _law_way_cut -/
def sp_law_way_cut (K : PySem.W.Frag) : Sp := fun vs H Q _ => ∃ (c tr lo : Addr) (C : Chart) (U S : List Nat), vs = [.ref c, .ref tr, .ref lo] ∧ IsChart K H c C ∧ C.Ok ∧ SqT K H tr (U.map vN) ∧ SqT K H lo (S.map vN) ∧ S.length ≤ 60 ∧
  ∀ (b : Bool) H', Same H H' → (b = true ↔ ¬ ∃ a ∈ S, ∃ p ∈ C.wished, Reach (past C.roads U) C.wished a p) → Q (.bl b) H'
theorem cal_law_way_cut (T : Txt mg) (D : Def K mg "_law_way_cut" s_law_way_cut) (c_law_way_reached : Cal P w K mg base 2 "_law_way_reached" (sp_law_way_reached K)) : Cal P w K mg base 3 "_law_way_cut" (sp_law_way_cut K) := by
  refine cal_of D sc_law_way_cut (fun _ _ _ _ _ _ us hl => match us, hl with | [_, _, _], _ => rfl) (fun vs H Q E h => ?_) (fun f cdv A outer s H vs Q E hr h => ?_)
  · obtain ⟨c, tr, lo, C, U, S, rfl, _⟩ := h
    rfl
  · obtain ⟨c, tr, lo, C, U, S, rfl, ⟨r, wd, ts, hC⟩, ok, hT, hS, S60, q⟩ := h
    have hU := hr.units
    refine ⟨_, (pss_one (ps_ret (pe_cmpR (show OpR _ _ (rEqD K) from op_eqD hU) (pe_lc (own := [("p", 3)]) rfl sc_law_way_cut.nd (show PI _ _ _ (iList K _) from pi_list (pe_c c_law_way_reached hr (by decide) (by rfl) (pa_cons (pv 0) (pa_cons (pv 1) (pa_cons (pv 2) pa_nil))))) (blkOk_by (N := ["chart", "traps", "lot", "p"]) (sc := L2.defScope s_law_way_cut) (by decide +kernel)) (fun _ _ _ _ _ => (pg_name (i := 3) sc_law_way_cut.nd rfl (Or.inl rfl))) (fun _ _ _ _ _ => pts_one (pt_cmpR (show OpR _ _ (rIn K false) from op_in_seq) (pv 3) (pe_ix (show IxR _ (rIxT K) from ix_tup) (pv 0) pe_int (fun _ _ => rfl)) (by rfl))) (fun _ _ _ _ _ => (pv 3))) (pe_lst pa_nil) (nomark _)))), ?_⟩
    refine ⟨_, rfl, _, rfl, _, rfl, c, tr, lo, C, U, S, rfl, ⟨r, wd, ts, hC⟩, ok, hT, hS, S60, fun g F H1 s1 hG F60 memF => ?_⟩
    refine ⟨g, rfl, ⟨_, .inl (.inl hG)⟩, fun e he => ?_⟩
    have keep : ∀ {H' : Hp}, Kp [e] H1 H' → Same H1 H' := fun {H'} k b o e' => k b o (fun m => by rw [List.mem_singleton.mp m, he] at e'; cases e') e'
    have hC1 := hC.same s1
    refine lc_list (K := K) (xs := F.map vN) (fun j H' => Kp [e] H1 H' ∧ H' e = some (.lst (((F.take j).filter fun b => decide (b ∈ C.wished)).map vN)))
      ⟨(fun b o x e' => by rw [upd_ne (ne_of_none e' he)]; exact e'), upd_same⟩ (fun j H' _ ⟨k, _⟩ => .inl (.inl (keep k _ _ hG))) ?_ ?_
    · rintro j x H2 hx ⟨k2, hE⟩
      obtain ⟨b, hb, rfl⟩ := get_map hx
      have jl : j < F.length := (List.getElem?_eq_some_iff.mp hb).1
      have hC2 := hC1.same (keep k2)
      refine ⟨rfl, ?_⟩
      refine ⟨_, rfl, _, rfl, _, _, _, _, rfl, rfl, hC2.top, rfl, wd, _, rfl, .inr hC2.wis, rfl, all_vN C.wished, _, rfl, ?_⟩
      show if inV (vN b) (C.wished.map vN) = true then _ else _
      rw [in_vN]
      by_cases hw : b ∈ C.wished
      · rw [decide_eq_true hw]
        refine iteT ?_
        refine ⟨_, rfl, _, hE, ?_, ?_, ?_⟩
        · rw [List.length_map]
          have h1 := List.length_filter_le (fun b => decide (b ∈ C.wished)) (F.take j)
          have h2 : (F.take j).length ≤ j := by rw [List.length_take]; omega
          exact small1000 (by omega)
        · intro b' o nb eb
          rw [upd_ne (fun z => nb (by rw [z]; simp))]
          exact k2 b' o nb eb
        · rw [upd_same, take_more hb, List.filter_append, List.map_append]
          simp [hw]
      · rw [decide_eq_false hw]
        refine iteF ⟨k2, ?_⟩
        rw [hE, take_more hb, List.filter_append]
        simp [hw]
    · rintro H2 ⟨k2, hE⟩
      rw [List.take_of_length_le (by rw [List.length_map]; exact Nat.le_refl _)] at hE
      refine ⟨Nat.zero_le _, fun z hz => ?_⟩
      have s3 : Same H2 (upd H2 z (.lst [])) := same_upd hz
      refine ⟨.list ((iN (F.filter fun b => decide (b ∈ C.wished))).map .int), .list [], .lst (.inl (.inl (s3 _ _ hE))) (by rw [vN_map]; exact dpAll_ints _), .lst (.inl (.inl upd_same)) .nil, ints_shaped _, rfl, ?_⟩
      refine q _ _ (s1.trans ((keep k2).trans s3)) ?_
      have e1 : (PyData.eqv (.list ((iN (F.filter fun b => decide (b ∈ C.wished))).map .int)) (.list []) = true) ↔ F.filter (fun b => decide (b ∈ C.wished)) = [] := by
        cases F.filter fun b => decide (b ∈ C.wished) with
        | nil => simp [iN, PyData.eqv, PyData.eqvAll]
        | cons a l => simp [iN, PyData.eqv, PyData.eqvAll]
      rw [e1]
      constructor
      · rintro h ⟨a, ha, p, hp, rp⟩
        have : p ∈ F.filter fun b => decide (b ∈ C.wished) := List.mem_filter.mpr ⟨(memF p).mpr ⟨ok.inW p hp, a, ha, rp⟩, decide_eq_true hp⟩
        rw [h] at this
        exact absurd this List.not_mem_nil
      · intro h
        cases e : F.filter fun b => decide (b ∈ C.wished) with
        | nil => rfl
        | cons p l =>
          have : p ∈ F.filter fun b => decide (b ∈ C.wished) := by rw [e]; exact List.mem_cons_self
          obtain ⟨h1, h2⟩ := List.mem_filter.mp this
          obtain ⟨_, a, ha, rp⟩ := (memF p).mp h1
          exact absurd ⟨a, ha, p, of_decide_eq_true h2, rp⟩ h
end
end Ft

set_option Elab.async false
set_option linter.all false
set_option maxRecDepth 100000
set_option maxHeartbeats 8000000
namespace Ft
open PySem PySem.Spec PyProof.Rows L2
section
variable {P : Program} {w : World} {K : PySem.W.Frag} {mg : Str → Option Value} {base : Heap} {t1 t2 : Tok}
/-! ### _law_bound_tree -/
def sp_law_bound_tree (K : PySem.W.Frag) : Sp := fun vs H Q _ => ∃ (p l : Addr) (most : Nat), vs = [.ref p, vN most] ∧ PoolAt H p l ∧ 0 < most ∧ most ≤ 20 ∧ ∀ (c : Addr) (C : Chart) (H' : Hp), IsChart K H' c C → C.Ok → PoolAt H' p l → Kp [p, l] H H' → Q (.ref c) H'
theorem cal_law_bound_tree (T : Txt mg) (D : Def K mg "_law_bound_tree" s_law_bound_tree) (c_law_draw : Cal P w K mg base 2 "_law_draw" sp_law_draw) (c_law_map_named : Cal P w K mg base 4 "_law_map_named" (sp_law_map_named K)) : Cal P w K mg base 5 "_law_bound_tree" (sp_law_bound_tree K) := by
  refine cal_of D sc_law_bound_tree (fun _ _ _ _ _ _ us hl => match us, hl with | [_, _], _ => rfl) (fun vs H Q E h => ?_) (fun f cdv A outer s H vs Q E hr h => ?_)
  · obtain ⟨p, l, most, rfl, _⟩ := h
    rfl
  · obtain ⟨p, l, most, rfl, hP, m0, m20, q⟩ := h
    have hU := hr.units
    refine ⟨_, (pss_cons (ps_par3 (i := 2) (j := 3) (l := 4) (by rfl) sc_law_bound_tree.nd rfl rfl rfl (by decide) (by decide) (by decide) rfl rfl rfl (pa_cons (pe_lst pa_nil) (pa_cons pe_int (pa_cons (pe_lst pa_nil) pa_nil))) (by rfl))
      (pss_cons (ps_for PassesOwn.never rfl (pi_range1 (by rfl) T.range (pa_cons (pv 1) pa_nil)) (pg_name (i := 5) sc_law_bound_tree.nd rfl (Or.inr rfl)) (pss_one (ps_if (pt_cmpR op_lt (pv 5) (pv 3) (nomark _)) (pss_one (ps_for PassesOwn.never rfl (pi_range1 (by rfl) T.range (pa_cons (pe_callB (call_min2 rfl) (by rfl) T.min (by decide +kernel) (pa_cons (pe_op op_add pe_int (pe_c c_law_draw hr (by decide) (by rfl) (pa_cons (pv 0) (pa_cons pe_int pa_nil)))) (pa_cons (pe_op op_sub (pv 1) (pv 3)) pa_nil))) pa_nil)) (pg_name (i := 6) sc_law_bound_tree.nd rfl (Or.inl rfl)) (pss_cons (ps_expr (pe_bm PySem.F.plainAttrs_list PySem.F.slot_list_append PySem.F.type_list_append mt_append (pv 2) (pa_cons (pe_tup (pa_cons (pv 5) (pa_cons (pv 3) pa_nil))) pa_nil)))
            (pss_one (ps_set (i := 3) sc_law_bound_tree.nd rfl (Or.inl rfl) (pe_op op_add (pv 3) pe_int)))))) pss_nil)))
      (pss_cons (ps_for PassesOwn.never rfl (pi_range1 (by rfl) T.range (pa_cons (pv 3) pa_nil)) (pg_name (i := 5) sc_law_bound_tree.nd rfl (Or.inr rfl)) (pss_cons (ps_set (i := 7) sc_law_bound_tree.nd rfl (Or.inl rfl) (pe_c c_law_draw hr (by decide) (by rfl) (pa_cons (pv 0) (pa_cons pe_int pa_nil))))
        (pss_one (ps_if (PW.pt (pw_or (pt_cmpR (show OpR _ _ (rEqD K) from op_eqD hU) (pe_lc (own := [("road", 8)]) rfl sc_law_bound_tree.nd (show PI _ _ _ (iList K _) from pi_list (pv 2)) (blkOk_by (N := ["pool", "most", "roads", "places", "wished", "a", "turn", "way", "road"]) (sc := L2.defScope s_law_bound_tree) (by decide +kernel)) (fun _ _ _ _ _ => (pg_name (i := 8) sc_law_bound_tree.nd rfl (Or.inl rfl))) (fun _ _ _ _ _ => pts_one (pt_cmpR op_eq (pe_ix (show IxR _ (rIxT K) from ix_tup) (pv 8) pe_int (fun _ _ => rfl)) (pv 5) (nomark _))) (fun _ _ _ _ _ => (pv 8))) (pe_lst pa_nil) (nomark _)) (pw_or1 (pt_cmpR op_eq (pv 7) pe_int (nomark _))))) (pss_one (ps_expr (pe_bm PySem.F.plainAttrs_list PySem.F.slot_list_append PySem.F.type_list_append mt_append (pv 4) (pa_cons (pv 5) pa_nil)))) (pss_one (ps_if (pt_cmpR op_lt (pv 7) pe_int (nomark _)) (pss_one (ps_expr (pe_bm PySem.F.plainAttrs_list PySem.F.slot_list_append PySem.F.type_list_append mt_append (pv 2) (pa_cons (pe_tup (pa_cons (pv 5) (pa_cons (pv 5) pa_nil))) pa_nil)))) (pss_one (ps_if (pt_cmpR op_eq (pv 7) pe_int (nomark _)) (pss_one (ps_expr (pe_bm PySem.F.plainAttrs_list PySem.F.slot_list_append PySem.F.type_list_append mt_append (pv 2) (pa_cons (pe_tup (pa_cons (pv 5) (pa_cons (pe_c c_law_draw hr (by decide) (by rfl) (pa_cons (pv 0) (pa_cons (pe_op op_add (pv 5) pe_int) pa_nil))) pa_nil))) pa_nil)))) pss_nil))))))))
      (pss_one (ps_ret (pe_ix (show IxR _ (rIxL K) from ix_list) (pe_c c_law_map_named hr (by decide) (by rfl) (pa_cons (pv 0) (pa_cons (pv 3) (pa_cons (pv 2) (pa_cons (pv 4) pa_nil))))) pe_int (fun _ _ => rfl))))))), ?_⟩
    refine ⟨Nat.zero_le _, fun d hd => ?_⟩
    have s1 : Same H (upd H d (.lst [])) := same_upd hd
    have hD1 : (upd H d (.lst [])) d = some (.lst []) := upd_same
    have dpl : d ∉ [p, l] := hP.free hd
    generalize upd H d (.lst []) = H1 at s1 hD1
    refine ⟨Nat.zero_le _, fun e he => ?_⟩
    have s2 : Same H1 (upd H1 e (.lst [])) := same_upd he
    have hE2 : (upd H1 e (.lst [])) e = some (.lst []) := upd_same
    have he0 : H e = none := s1.free he
    have nde : d ≠ e := ne_of_none hD1 he
    have epl : e ∉ [p, l] := (hP.same s1).free he
    have hD2 := s2 _ _ hD1
    have hP2 := (hP.same s1).same s2
    have k2 : Kp [p, l] H (upd H1 e (.lst [])) := Same.kp (s1.trans s2)
    generalize upd H1 e (.lst []) = H2 at s2 hE2 hD2 hP2 k2
    refine ⟨_, _, _, rfl, ?_⟩
    have kset : ∀ {H' : Hp} {o : HO} {z : Addr}, H z = none → Kp [p, l] H H' → Kp [p, l] H (upd H' z o) := fun {H' o z} hz k b x nb eb => by
      rw [upd_ne (ne_of_none eb hz)]
      exact k b x nb eb
    refine ⟨_, rfl, _, rfl, by omega, by omega, for_range (lo := 0) (n := most) (fun i σ H' => ∃ (n : Nat) (L : List (Addr × (Nat × Nat))) (v5 v6 : Option V), σ = [some (.ref p), some (vN most), some (.ref d), some (vN n), some (.ref e), v5, v6, none, none] ∧ PoolAt H' p l ∧ Kp [p, l] H H' ∧
      H' d = some (.lst (L.map fun r => V.ref r.1)) ∧ TupsAt H' L ∧ H' e = some (.lst []) ∧ 0 < n ∧ n ≤ most ∧ L.length + 1 = n ∧ ∀ r ∈ L, r.2.1 < n ∧ r.2.2 < n)
      ⟨1, [], _, _, rfl, hP2, k2, hD2, (fun _ h => nomatch h), hE2, by decide, m0, rfl, (fun _ h => nomatch h)⟩ ?_ ?_⟩
    · rintro i σ H3 hi ⟨n, L, v5, v6, rfl, hP3, k3, hD3, hL3, hE3, n0, nm, lL, inL⟩
      refine ⟨_, rfl, _, rfl, _, _, rfl, rfl, _, rfl, ite_any (fun hin => ?_) (fun _ => ⟨n, L, _, _, rfl, hP3, k3, hD3, hL3, hE3, n0, nm, lL, inL⟩)⟩
      have hin' := of_decide_eq_true hin
      have hin2 : i < n := by omega
      refine ⟨_, rfl, p, l, 3, rfl, hP3, by decide, by decide, fun x H4 hx hP4 k4 => ?_⟩
      have hD4 := k4 _ _ dpl hD3
      have hE4 := k4 _ _ epl hE3
      have hL4 : TupsAt H4 L := hL3.keep k4 hP3.lists
      have k34 := k3.trans k4
      refine ⟨_, _, rfl, rfl, _, rfl, _, rfl, _, _, rfl, rfl, _, _, rfl, ?_⟩
      obtain ⟨z, ez, zle⟩ : ∃ z : Nat, (if (most : Int) - (n : Int) < 1 + (x : Int) then (most : Int) - (n : Int) else 1 + (x : Int)) = (z : Int) ∧ n + z ≤ most := by
        by_cases h : (most : Int) - (n : Int) < 1 + (x : Int)
        · exact ⟨most - n, by rw [if_pos h]; omega, by omega⟩
        · exact ⟨1 + x, by rw [if_neg h]; omega, by omega⟩
      refine ⟨_, rfl, ?_⟩
      show -2 ^ 62 ≤ (if (most : Int) - (n : Int) < 1 + (x : Int) then (most : Int) - (n : Int) else 1 + (x : Int)) ∧ _
      rw [ez]
      refine ⟨by omega, by omega, for_range (lo := 0) (n := z) (fun j σ H' => ∃ (L' : List (Addr × (Nat × Nat))) (v6 : Option V), σ = [some (.ref p), some (vN most), some (.ref d), some (vN (n + j)), some (.ref e), some (.int (0 + (i : Nat))), v6, none, none] ∧ PoolAt H' p l ∧ Kp [p, l] H H' ∧
        H' d = some (.lst (L'.map fun r => V.ref r.1)) ∧ TupsAt H' L' ∧ H' e = some (.lst []) ∧ L'.length + 1 = n + j ∧ ∀ r ∈ L', r.2.1 < n + j ∧ r.2.2 < n + j)
        ⟨L, _, rfl, hP4, k34, hD4, hL4, hE4, lL, inL⟩ ?_ ?_⟩
      · rintro j σ H5 hj ⟨L5, v6', rfl, hP5, k5, hD5, hL5, hE5, l5, in5⟩
        refine ⟨_, rfl, .inl ⟨rfl, _, .inl (.inl hD5)⟩, _, rfl, _, rfl, by show 2 ≤ sizeLine; decide, fun t ht => ?_⟩
        have s6 : Same H5 (upd H5 t (.tup [.int (0 + (i : Nat)), vN (n + j)])) := same_upd ht
        have hT6 : (upd H5 t (.tup [.int (0 + (i : Nat)), vN (n + j)])) t = some (.tup [vN i, vN (n + j)]) := by
          rw [upd_same]
          have : (0 : Int) + (i : Nat) = (i : Nat) := by omega
          rw [this]
          rfl
        have hD6 := s6 _ _ hD5
        refine ⟨d, _, _, rfl, rfl, hD6, by rw [List.length_map]; exact small1000 (by omega), ?_⟩
        refine ⟨_, rfl, _, _, rfl, rfl, L5 ++ [(t, (i, n + j))], _, rfl, (hP5.same s6).set dpl, kset hd (k5.trans (Same.kp s6)), by rw [upd_same, List.map_append]; rfl, ((hL5.same s6).add hT6).set hD6, by rw [upd_ne nde.symm]; exact s6 _ _ hE5, by rw [List.length_append, List.length_singleton]; omega, ?_⟩
        intro r hr'
        rcases List.mem_append.mp hr' with hr' | hr'
        · have := in5 r hr'
          omega
        · rw [List.mem_singleton.mp hr']
          exact ⟨by show i < n + (j + 1); omega, by show n + j < n + (j + 1); omega⟩
      · rintro σ H5 ⟨L5, v6', rfl, hP5, k5, hD5, hL5, hE5, l5, in5⟩
        exact ⟨n + z, L5, _, _, rfl, hP5, k5, hD5, hL5, hE5, by omega, zle, l5, in5⟩
    rintro σ H3 ⟨n, L, v5, v6, rfl, hP3, k3, hD3, hL3, hE3, n0, nm, lL, inL⟩
    refine ⟨_, rfl, _, rfl, by omega, by omega, for_range (lo := 0) (n := n) (fun i σ H' => ∃ (L' : List (Addr × (Nat × Nat))) (W : List Nat) (v5 v7 : Option V), σ = [some (.ref p), some (vN most), some (.ref d), some (vN n), some (.ref e), v5, v6, v7, none] ∧ PoolAt H' p l ∧ Kp [p, l] H H' ∧
      H' d = some (.lst (L'.map fun r => V.ref r.1)) ∧ TupsAt H' L' ∧ H' e = some (.lst (W.map vN)) ∧ L'.length ≤ n + i ∧ (∀ r ∈ L', r.2.1 < n ∧ r.2.2 < n) ∧ Upto W i)
      ⟨L, [], _, _, rfl, hP3, k3, hD3, hL3, hE3, by omega, inL, Upto.nil 0⟩ ?_ ?_⟩
    · rintro i σ H4 hi ⟨L4, W, v5', v7, rfl, hP4, k4, hD4, hL4, hE4, l4, in4, hW⟩
      have e0 : (0 : Int) + (i : Nat) = (i : Nat) := by omega
      refine ⟨_, rfl, p, l, 9, rfl, hP4, by decide, by decide, fun way H5 hway hP5 k5 => ?_⟩
      have hD5 := k5 _ _ dpl hD4
      have hE5 := k5 _ _ epl hE4
      have hL5 : TupsAt H5 L4 := hL4.keep k5 hP4.lists
      have k45 := k4.trans k5
      refine ⟨_, rfl, d, rfl, ⟨_, .inl (.inl hD5)⟩, fun g hg => ?_⟩
      have keep5 : ∀ {H' : Hp}, Kp [g] H5 H' → Same H5 H' := fun {H'} k b o e' => k b o (fun m => by rw [List.mem_singleton.mp m, hg] at e'; cases e') e'
      refine lc_list (K := K) (xs := L4.map fun r => V.ref r.1) (fun j H' => ∃ M : List (Addr × (Nat × Nat)), Kp [g] H5 H' ∧ H' g = some (.lst (M.map fun r => V.ref r.1)) ∧ M.length ≤ j ∧ ∀ r ∈ M, SqT K H5 r.1 [vN r.2.1, vN r.2.2])
        ⟨[], (fun b o x e' => by rw [upd_ne (ne_of_none e' hg)]; exact e'), upd_same, Nat.le_refl _, fun _ h => nomatch h⟩ (fun j H' _ ⟨_, k, _⟩ => .inl (.inl (keep5 k _ _ hD5))) ?_ ?_
      · rintro j x H6 hx ⟨M, k6, hG, lM, inM⟩
        obtain ⟨r0, hr0, rfl⟩ := get_map hx
        have jl : j < L4.length := (List.getElem?_eq_some_iff.mp hr0).1
        have pt5 : SqT K H5 r0.1 [vN r0.2.1, vN r0.2.2] := .inl (.inl (hL5 r0 (List.mem_of_getElem? hr0)))
        refine ⟨rfl, ?_⟩
        refine ⟨_, rfl, r0.1, _, _, _, rfl, rfl, Same.sqT (keep5 k6) pt5, rfl, _, rfl, rfl, _, rfl, ite_any (fun _ => ?_) (fun _ => ⟨M, k6, hG, by omega, inM⟩)⟩
        refine ⟨_, rfl, _, hG, by rw [List.length_map]; exact small1000 (by omega), M ++ [r0], ?_, by rw [upd_same, List.map_append]; rfl, by rw [List.length_append]; exact Nat.succ_le_succ lM, ?_⟩
        · intro b o nb eb
          rw [upd_ne (fun z => nb (by rw [z]; simp))]
          exact k6 b o nb eb
        · intro r hr'
          rcases List.mem_append.mp hr' with hr' | hr'
          · exact inM r hr'
          · rw [List.mem_singleton.mp hr']
            exact pt5
      rintro H6 ⟨M, k6, hG, lM, inM⟩
      refine ⟨Nat.zero_le _, fun z hz => ?_⟩
      have s7 : Same H6 (upd H6 z (.lst [])) := same_upd hz
      have s57 := (keep5 k6).trans s7
      have hZ7 : (upd H6 z (.lst [])) z = some (.lst []) := upd_same
      have hG7 := s7 _ _ hG
      generalize upd H6 z (.lst []) = H7 at s7 s57 hZ7 hG7
      have hD7 := s57 _ _ hD5
      have hE7 := s57 _ _ hE5
      have hL7 := hL5.same s57
      have hP7 := hP5.same s57
      have k7 := k45.trans (Same.kp s57)
      refine ⟨.list (M.map fun r => encP r.2), .list [], .lst (.inl (.inl hG7)) (dpAll_pairs M fun r hr' => Same.sqT s57 (inM r hr')), .lst (.inl (.inl hZ7)) .nil, by have z := pairs_shaped (M.map (·.2)); rw [List.map_map] at z; exact z, rfl, _, rfl, ?_⟩
      have wishI : ∃ (L' : List (Addr × (Nat × Nat))) (W' : List Nat), True := ⟨[], [], trivial⟩
      have addW : (upd H7 e (.lst (W.map vN ++ [.int (0 + (i : Nat))]))) e = some (.lst ((W ++ [i]).map vN)) := by
        rw [upd_same, List.map_append, e0]
        rfl
      have wish : ∀ v5' v7', ∃ (L' : List (Addr × (Nat × Nat))) (W' : List Nat) (v5 v7 : Option V), [some (.ref p), some (vN most), some (.ref d), some (vN n), some (.ref e), v5', v6, v7', none] = [some (.ref p), some (vN most), some (.ref d), some (vN n), some (.ref e), v5, v6, v7, none] ∧ PoolAt (upd H7 e (.lst (W.map vN ++ [.int (0 + (i : Nat))]))) p l ∧ Kp [p, l] H (upd H7 e (.lst (W.map vN ++ [.int (0 + (i : Nat))]))) ∧
          (upd H7 e (.lst (W.map vN ++ [.int (0 + (i : Nat))]))) d = some (.lst (L'.map fun r => V.ref r.1)) ∧ TupsAt (upd H7 e (.lst (W.map vN ++ [.int (0 + (i : Nat))]))) L' ∧ (upd H7 e (.lst (W.map vN ++ [.int (0 + (i : Nat))]))) e = some (.lst (W'.map vN)) ∧ L'.length ≤ n + (i + 1) ∧ (∀ r ∈ L', r.2.1 < n ∧ r.2.2 < n) ∧ Upto W' (i + 1) := fun v5' v7' =>
        ⟨L4, W ++ [i], v5', v7', rfl, hP7.set epl, kset he0 k7, by rw [upd_ne nde]; exact hD7, hL7.set hE7, addW, by omega, in4, hW.more⟩
      have Wl := hW.len
      have smallW : (W.map vN).length < sizeLine := by rw [List.length_map]; exact small1000 (by omega)
      have road : ∀ (y : Nat) (H8 : Hp) (t : Addr) v5' v7', y < n → PoolAt H8 p l → Kp [p, l] H7 H8 → H8 t = none → ∃ (L' : List (Addr × (Nat × Nat))) (W' : List Nat) (v5 v7 : Option V), [some (.ref p), some (vN most), some (.ref d), some (vN n), some (.ref e), v5', v6, v7', none] = [some (.ref p), some (vN most), some (.ref d), some (vN n), some (.ref e), v5, v6, v7, none] ∧ PoolAt (upd (upd H8 t (.tup [.int (0 + (i : Nat)), vN y])) d (.lst ((L4.map fun r => V.ref r.1) ++ [.ref t]))) p l ∧ Kp [p, l] H (upd (upd H8 t (.tup [.int (0 + (i : Nat)), vN y])) d (.lst ((L4.map fun r => V.ref r.1) ++ [.ref t]))) ∧
          (upd (upd H8 t (.tup [.int (0 + (i : Nat)), vN y])) d (.lst ((L4.map fun r => V.ref r.1) ++ [.ref t]))) d = some (.lst (L'.map fun r => V.ref r.1)) ∧ TupsAt (upd (upd H8 t (.tup [.int (0 + (i : Nat)), vN y])) d (.lst ((L4.map fun r => V.ref r.1) ++ [.ref t]))) L' ∧ (upd (upd H8 t (.tup [.int (0 + (i : Nat)), vN y])) d (.lst ((L4.map fun r => V.ref r.1) ++ [.ref t]))) e = some (.lst (W'.map vN)) ∧ L'.length ≤ n + (i + 1) ∧ (∀ r ∈ L', r.2.1 < n ∧ r.2.2 < n) ∧ Upto W' (i + 1) := by
        intro y H8 t v5' v7' hy hP8 k8 ht
        have s9 : Same H8 (upd H8 t (.tup [.int (0 + (i : Nat)), vN y])) := same_upd ht
        have hT9 : (upd H8 t (.tup [.int (0 + (i : Nat)), vN y])) t = some (.tup [vN i, vN y]) := by
          rw [upd_same, e0]
          rfl
        have hD9 := s9 _ _ (k8 _ _ dpl hD7)
        have hL8 : TupsAt H8 L4 := hL7.keep k8 hP7.lists
        refine ⟨L4 ++ [(t, (i, y))], W, v5', v7', rfl, (hP8.same s9).set dpl, kset hd ((k7.trans k8).trans (Same.kp s9)), by rw [upd_same, List.map_append]; rfl, ((hL8.same s9).add hT9).set hD9, by rw [upd_ne nde.symm]; exact s9 _ _ (k8 _ _ epl hE7), by rw [List.length_append, List.length_singleton]; omega, ?_, hW.wider⟩
        intro r hr'
        rcases List.mem_append.mp hr' with hr' | hr'
        · exact in4 r hr'
        · rw [List.mem_singleton.mp hr']
          exact ⟨hi, hy⟩
      have smallL : (L4.map fun r => V.ref r.1).length < sizeLine := by rw [List.length_map]; exact small1000 (by omega)
      refine ite_any (fun _ => ?_) (fun _ => ?_)
      · exact ⟨_, rfl, .inl ⟨rfl, _, .inl (.inl hE7)⟩, _, rfl, e, _, _, rfl, rfl, hE7, smallW, wish _ _⟩
      · refine ⟨_, rfl, rfl, _, rfl, ite_any (fun _ => ?_) (fun _ => ?_)⟩
        · exact ⟨_, rfl, .inl ⟨rfl, _, .inl (.inl hE7)⟩, _, rfl, e, _, _, rfl, rfl, hE7, smallW, wish _ _⟩
        · refine ⟨_, rfl, _, _, rfl, rfl, _, rfl, ite_any (fun _ => ?_) (fun _ => ?_)⟩
          · refine ⟨_, rfl, .inl ⟨rfl, _, .inl (.inl hD7)⟩, _, rfl, _, rfl, by show 2 ≤ sizeLine; decide, fun t ht => ?_⟩
            have ei : V.int (0 + (i : Nat)) = vN i := by rw [e0]; rfl
            have h9 : (upd H7 t (.tup [.int (0 + (i : Nat)), .int (0 + (i : Nat))])) d = some (.lst (L4.map fun r => V.ref r.1)) := (same_upd ht) _ _ hD7
            refine ⟨d, _, _, rfl, rfl, h9, smallL, ?_⟩
            have := road i H7 t (some (.int (0 + (i : Nat)))) (some (vN way)) hi hP7 (Kp.refl _ _) ht
            rw [← ei] at this
            exact this
          · refine ⟨_, rfl, rfl, _, rfl, ite_any (fun _ => ?_) (fun _ => ?_)⟩
            · refine ⟨_, rfl, .inl ⟨rfl, _, .inl (.inl hD7)⟩, _, rfl, _, rfl, _, rfl, _, _, rfl, rfl, p, l, i + 1, ?_, hP7, by omega, by omega, fun y H8 hy hP8 k8 => ?_⟩
              · have : (0 : Int) + (i : Nat) + 1 = ((i + 1 : Nat) : Int) := by omega
                show [V.ref p, V.int (0 + (i : Nat) + 1)] = [V.ref p, V.int ((i + 1 : Nat) : Int)]
                rw [this]
              · refine ⟨by show 2 ≤ sizeLine; decide, fun t ht => ?_⟩
                have h9 : (upd H8 t (.tup [.int (0 + (i : Nat)), vN y])) d = some (.lst (L4.map fun r => V.ref r.1)) := (same_upd ht) _ _ (k8 _ _ dpl hD7)
                exact ⟨d, _, _, rfl, rfl, h9, smallL, road y H8 t _ _ (by omega) hP8 k8 ht⟩
            · exact ⟨L4, W, _, _, rfl, hP7, k7, hD7, hL7, hE7, by omega, in4, hW.wider⟩
    · rintro σ H4 ⟨L4, W, v5', v7, rfl, hP4, k4, hD4, hL4, hE4, l4, in4, hW⟩
      have ePr : (L4.map fun r => V.ref r.1) = (L4.map (·.1)).map V.ref := by rw [List.map_map]; rfl
      rw [ePr] at hD4
      have Wl := hW.len
      refine ⟨_, rfl, _, rfl, _, rfl, _, rfl, p, l, d, e, n, L4.map (·.1), L4.map (·.2), W, rfl, hP4, by omega, hD4, dpl, hL4.pairs, by rw [List.length_map]; omega, ?_, hE4, epl, by omega, hW.lt, fun q' c na perm C H8 pm _ _ hQ hC _ nmd hP8 k8 => ?_⟩
      · intro r hr'
        obtain ⟨z, hz, rfl⟩ := List.mem_map.mp hr'
        exact in4 z hz
      · exact ⟨q', _, _, _, rfl, rfl, .inl (.inl hQ), rfl, q c C H8 hC nmd.ok hP8 (k4.trans k8)⟩
end
end Ft

set_option Elab.async false
set_option linter.all false
set_option maxRecDepth 100000
set_option maxHeartbeats 8000000
namespace Ft
open PySem PySem.Spec PyProof.Rows L2
theorem rgV_from {a b : Nat} (h : a ≤ b) : rgV (a : Int) (b : Int) = (List.range' a (b - a)).map vN := by
  unfold rgV
  have e : ((b : Int) - (a : Int)).toNat = b - a := by omega
  rw [e, List.range'_eq_map_range, List.map_map]
  refine List.map_congr_left fun i _ => ?_
  show V.int ((a : Int) + (i : Nat)) = V.int ((a + i : Nat) : Int)
  rw [show ((a + i : Nat) : Int) = (a : Int) + (i : Int) by omega]
section
variable {P : Program} {w : World} {K : PySem.W.Frag} {mg : Str → Option Value} {base : Heap} {t1 t2 : Tok}
/-! ### _law_bound_spine -/
def sp_law_bound_spine (K : PySem.W.Frag) : Sp := fun vs H Q _ => ∃ (p l : Addr) (most : Nat), vs = [.ref p, vN most] ∧ PoolAt H p l ∧ 7 ≤ most ∧ most ≤ 20 ∧ ∀ (c : Addr) (C : Chart) (H' : Hp), IsChart K H' c C → C.Ok → 0 < C.n → PoolAt H' p l → Kp [p, l] H H' → Q (.ref c) H'
theorem cal_law_bound_spine (T : Txt mg) (D : Def K mg "_law_bound_spine" s_law_bound_spine) (c_law_draw : Cal P w K mg base 2 "_law_draw" sp_law_draw) (c_law_pick : Cal P w K mg base 3 "_law_pick" (sp_law_pick K)) (c_law_map_named : Cal P w K mg base 4 "_law_map_named" (sp_law_map_named K)) : Cal P w K mg base 5 "_law_bound_spine" (sp_law_bound_spine K) := by
  refine cal_of D sc_law_bound_spine (fun _ _ _ _ _ _ us hl => match us, hl with | [_, _], _ => rfl) (fun vs H Q E h => ?_) (fun f cdv A outer s H vs Q E hr h => ?_)
  · obtain ⟨p, l, most, rfl, _⟩ := h
    rfl
  · obtain ⟨p, l, most, rfl, hP, m7, m20, q⟩ := h
    refine ⟨_, (pss_cons (ps_set (i := 2) sc_law_bound_spine.nd rfl (Or.inl rfl) (pe_mid (pe_ifExp (PW.pt (pw_and (pt_cmpR op_gt (pv 1) pe_int (nomark _)) (pw_and1 (pt_cmpR op_eq (pe_c c_law_draw hr (by decide) (by rfl) (pa_cons (pv 0) (pa_cons pe_int pa_nil))) pe_int (nomark _))))) pe_int pe_int)))
      (pss_cons (ps_set (i := 3) sc_law_bound_spine.nd rfl (Or.inl rfl) (pe_op op_sub (pe_op op_fdiv (pe_op op_sub (pv 1) pe_int) (pe_op op_add (pv 2) pe_int)) pe_int))
      (pss_cons (ps_set (i := 3) sc_law_bound_spine.nd rfl (Or.inl rfl) (pe_op op_sub (pv 3) (pe_c c_law_draw hr (by decide) (by rfl) (pa_cons (pv 0) (pa_cons (pv 3) pa_nil)))))
      (pss_cons (ps_par (i := 4) (j := 5) (by rfl) sc_law_bound_spine.nd rfl rfl (by decide) rfl rfl (pa_cons (pe_lc (own := [("a", 6)]) rfl sc_law_bound_spine.nd (pi_range1 (by rfl) T.range (pa_cons (pv 3) pa_nil)) (blkOk_by (N := ["pool", "most", "out", "steps", "roads", "places", "a", "turn", "wished", "way"]) (sc := L2.defScope s_law_bound_spine) (by decide +kernel)) (fun _ _ _ _ _ => (pg_name (i := 6) sc_law_bound_spine.nd rfl (Or.inl rfl))) (fun _ _ _ _ _ => pts_nil) (fun _ _ _ _ _ => (pe_tup (pa_cons (pv 6) (pa_cons (pe_op op_add (pv 6) pe_int) pa_nil))))) (pa_cons (pe_op op_add (pv 3) pe_int) pa_nil)) (by rfl))
      (pss_cons (ps_for PassesOwn.never rfl (pi_range1 (by rfl) T.range (pa_cons (pe_op op_add (pv 3) pe_int) pa_nil)) (pg_name (i := 6) sc_law_bound_spine.nd rfl (Or.inl rfl)) (pss_one (ps_for PassesOwn.never rfl (pi_range1 (by rfl) T.range (pa_cons (pe_op op_add (pv 2) (pe_callTy call_int1 (by rfl) T.int (by decide +kernel) (pa_cons (pe_cmpR op_eq (pv 6) (pv 3) (nomark _)) pa_nil))) pa_nil)) (pg_name (i := 7) sc_law_bound_spine.nd rfl (Or.inl rfl)) (pss_cons (ps_expr (pe_bm PySem.F.plainAttrs_list PySem.F.slot_list_append PySem.F.type_list_append mt_append (pv 4) (pa_cons (pe_tup (pa_cons (pv 6) (pa_cons (pv 5) pa_nil))) pa_nil)))
          (pss_one (ps_set (i := 5) sc_law_bound_spine.nd rfl (Or.inl rfl) (pe_op op_add (pv 5) pe_int)))))))
      (pss_cons (ps_set (i := 8) sc_law_bound_spine.nd rfl (Or.inl rfl) (pe_listRg rfl (by rfl) T.list (prg_2 (by rfl) T.range (pe_op op_add (pv 3) pe_int) (pv 5))))
      (pss_cons (ps_for PassesOwn.never rfl (pi_range1 (by rfl) T.range (pa_cons (pe_op op_add (pv 3) pe_int) pa_nil)) (pg_name (i := 6) sc_law_bound_spine.nd rfl (Or.inl rfl)) (pss_cons (ps_set (i := 9) sc_law_bound_spine.nd rfl (Or.inl rfl) (pe_c c_law_draw hr (by decide) (by rfl) (pa_cons (pv 0) (pa_cons pe_int pa_nil))))
        (pss_one (ps_if (pt_cmpR op_lt (pv 9) pe_int (nomark _)) (pss_one (ps_expr (pe_bm PySem.F.plainAttrs_list PySem.F.slot_list_append PySem.F.type_list_append mt_append (pv 4) (pa_cons (pe_tup (pa_cons (pv 6) (pa_cons (pv 6) pa_nil))) pa_nil)))) (pss_one (ps_if (pt_cmpR op_eq (pv 9) pe_int (nomark _)) (pss_one (ps_expr (pe_bm PySem.F.plainAttrs_list PySem.F.slot_list_append PySem.F.type_list_append mt_append (pv 4) (pa_cons (pe_tup (pa_cons (pv 6) (pa_cons (pe_c c_law_draw hr (by decide) (by rfl) (pa_cons (pv 0) (pa_cons (pe_op op_add (pv 6) pe_int) pa_nil))) pa_nil))) pa_nil)))) (pss_one (ps_if (pt_cmpR op_eq (pv 9) pe_int (nomark _)) (pss_one (ps_expr (pe_bm PySem.F.plainAttrs_list PySem.F.slot_list_append PySem.F.type_list_append mt_append (pv 4) (pa_cons (pe_tup (pa_cons (pv 6) (pa_cons (pe_c c_law_pick hr (by decide) (by rfl) (pa_cons (pv 0) (pa_cons (pv 8) pa_nil))) pa_nil))) pa_nil)))) pss_nil))))))))
      (ps_cut (ps_if (PW.pt (pw_and (pt_cmpR op_le (pe_op op_add (pv 5) pe_int) (pv 1) (nomark _)) (pw_and1 (pt_cmpR op_eq (pe_c c_law_draw hr (by decide) (by rfl) (pa_cons (pv 0) (pa_cons pe_int pa_nil))) pe_int (nomark _))))) (pss_cons (ps_set (i := 4) sc_law_bound_spine.nd rfl (Or.inl rfl) (pe_op op_cat (pv 4) (pe_lst (pa_cons (pe_tup (pa_cons (pv 5) (pa_cons (pe_op op_add (pv 5) pe_int) pa_nil))) (pa_cons (pe_tup (pa_cons (pv 5) (pa_cons (pe_op op_add (pv 5) (pe_c c_law_draw hr (by decide) (by rfl) (pa_cons (pv 0) (pa_cons pe_int pa_nil)))) pa_nil))) pa_nil)))))
        (pss_cons (ps_expr (pe_bm PySem.F.plainAttrs_list PySem.F.slot_list_append PySem.F.type_list_append mt_append (pv 8) (pa_cons (pe_op op_add (pv 5) pe_int) pa_nil)))
        (pss_one (ps_set (i := 5) sc_law_bound_spine.nd rfl (Or.inl rfl) (pe_op op_add (pv 5) pe_int))))) (pss_one (ps_if (pt_cmpR op_lt (pv 5) (pv 1) (nomark _)) (pss_cons (ps_expr (pe_bm PySem.F.plainAttrs_list PySem.F.slot_list_append PySem.F.type_list_append mt_append (pv 4) (pa_cons (pe_tup (pa_cons (pv 5) (pa_cons (pe_op op_add pe_int (pe_c c_law_draw hr (by decide) (by rfl) (pa_cons (pv 0) (pa_cons (pv 3) pa_nil)))) pa_nil))) pa_nil)))
          (pss_one (ps_set (i := 5) sc_law_bound_spine.nd rfl (Or.inl rfl) (pe_op op_add (pv 5) pe_int)))) pss_nil)))
      (pss_one (ps_ret (pe_ix (show IxR _ (rIxL K) from ix_list) (pe_c c_law_map_named hr (by decide) (by rfl) (pa_cons (pv 0) (pa_cons (pv 5) (pa_cons (pv 4) (pa_cons (pv 8) pa_nil))))) pe_int (fun _ _ => rfl)))))))))))), ?_⟩
    refine ⟨fun v H' => ∃ o : Nat, v = vN o ∧ (o = 1 ∨ o = 2) ∧ PoolAt H' p l ∧ Kp [p, l] H H', ⟨_, rfl, _, _, rfl, rfl, _, rfl, ite_any (fun _ => ?_) (fun _ => ⟨1, rfl, .inl rfl, hP, Kp.refl _ _⟩)⟩, ?_⟩
    · exact ⟨_, rfl, p, l, 3, rfl, hP, by decide, by decide, fun x H1 _ hP1 k1 => ⟨rfl, _, rfl, ite_any (fun _ => ⟨2, rfl, .inr rfl, hP1, k1⟩) (fun _ => ⟨1, rfl, .inl rfl, hP1, k1⟩)⟩⟩
    rintro v H1 ⟨o, rfl, ho, hP1, k1⟩
    have o0 : (0 : Int) < (o : Int) + 1 := by omega
    have o1 : (o : Int) + 1 < 1073741824 := by omega
    refine ⟨_, rfl, _, _, rfl, rfl, _, rfl, _, _, rfl, rfl, _, _, rfl, rfl, ⟨o0, o1⟩, _, _, rfl, rfl, ?_⟩
    obtain ⟨s0, es0, s01, s02⟩ : ∃ s0 : Nat, ((most : Int) - 1) / ((o : Int) + 1) - 1 = (s0 : Int) ∧ 1 ≤ s0 ∧ (s0 + 1) * (o + 1) + 1 ≤ most := by
      have hd : ((most : Int) - 1) / ((o : Int) + 1) = ((((most - 1) / (o + 1)) : Nat) : Int) := by
        rw [show (most : Int) - 1 = ((most - 1 : Nat) : Int) by omega, show (o : Int) + 1 = ((o + 1 : Nat) : Int) by omega]
        rfl
      have h2 : 2 ≤ (most - 1) / (o + 1) := (Nat.le_div_iff_mul_le (by omega)).mpr (by rcases ho with e | e <;> subst e <;> omega)
      have h3 := Nat.div_mul_le_self (most - 1) (o + 1)
      refine ⟨(most - 1) / (o + 1) - 1, by rw [hd]; omega, by omega, ?_⟩
      rw [show (most - 1) / (o + 1) - 1 + 1 = (most - 1) / (o + 1) by omega]
      omega
    have s0m : s0 + 1 ≤ (s0 + 1) * (o + 1) := Nat.le_mul_of_pos_right _ (by omega)
    show gName 3 (V.int (((most : Int) - 1) / ((o : Int) + 1) - 1)) _ _ _
    rw [es0]
    refine at_name ?_
    dsimp only
    refine at_seq ?_
    refine ⟨_, rfl, _, rfl, _, rfl, p, l, s0, rfl, hP1, by omega, by omega, fun x H2 hx hP2 k2 => ?_⟩
    refine ⟨_, _, rfl, rfl, ?_⟩
    obtain ⟨st, est, st1, st2⟩ : ∃ st : Nat, (s0 : Int) - (x : Int) = (st : Int) ∧ 1 ≤ st ∧ (st + 1) * (o + 1) + 1 ≤ most := by
      refine ⟨s0 - x, by omega, by omega, Nat.le_trans ?_ s02⟩
      exact Nat.succ_le_succ (Nat.mul_le_mul_right _ (by omega))
    show gName 3 (V.int ((s0 : Int) - (x : Int))) _ _ _
    rw [est]
    refine at_name ?_
    dsimp only
    refine at_seq ?_
    have st9 : st ≤ 9 := by rcases ho with e | e <;> subst e <;> omega
    have k12 := k1.trans k2
    refine ⟨_, rfl, _, rfl, by omega, by omega, fun d hd => ?_⟩
    have dpl : d ∉ [p, l] := hP2.free hd
    have hd0 : H d = none := kp_free k12 dpl hd
    have kset : ∀ {H' : Hp} {o : HO} {z : Addr}, H z = none → Kp [p, l] H H' → Kp [p, l] H (upd H' z o) := fun {H' o z} hz k b x nb eb => by
      rw [upd_ne (ne_of_none eb hz)]
      exact k b x nb eb
    refine lc_range (lo := 0) (n := st) (fun i H' => ∃ L : List (Addr × (Nat × Nat)), Kp [d] H2 H' ∧ H' d = some (.lst (L.map fun r => V.ref r.1)) ∧ TupsAt H' L ∧ L.length = i ∧ ∀ r ∈ L, r.2.1 < st + 1 ∧ r.2.2 < st + 1)
      ⟨[], (fun b o x e' => by rw [upd_ne (ne_of_none e' hd)]; exact e'), upd_same, (fun _ h => nomatch h), rfl, (fun _ h => nomatch h)⟩ ?_ ?_
    · rintro i H3 hi ⟨L, k3, hD, hL, lL, inL⟩
      have e0 : (0 : Int) + (i : Nat) = (i : Nat) := by omega
      refine ⟨rfl, ?_⟩
      rw [e0]
      refine ⟨_, rfl, _, rfl, _, _, rfl, rfl, by show 2 ≤ sizeLine; decide, fun t ht => ?_⟩
      have s4 : Same H3 (upd H3 t (.tup [vN i, .int ((i : Int) + 1)])) := same_upd ht
      have hT4 : (upd H3 t (.tup [vN i, .int ((i : Int) + 1)])) t = some (.tup [vN i, vN (i + 1)]) := upd_same
      have hD4 := s4 _ _ hD
      refine ⟨_, hD4, by rw [List.length_map]; exact small1000 (by omega), L ++ [(t, (i, i + 1))], ?_, by rw [upd_same, List.map_append]; rfl, ((hL.same s4).add hT4).set hD4, by rw [List.length_append, lL]; rfl, ?_⟩
      · intro b o nb eb
        rw [upd_ne (fun z => nb (by rw [z]; simp))]
        exact s4 _ _ (k3 b o nb eb)
      · intro r hr'
        rcases List.mem_append.mp hr' with hr' | hr'
        · exact inL r hr'
        · rw [List.mem_singleton.mp hr']
          exact ⟨by show i < st + 1; omega, by show i + 1 < st + 1; omega⟩
    rintro H3 ⟨L0, k3, hD3, hL3, lL0, inL0⟩
    have s3 : Same H2 H3 := fun b o eb => k3 b o (fun m => by rw [List.mem_singleton.mp m, hd] at eb; cases eb) eb
    have hP3 := hP2.same s3
    have k13 := k12.trans (Same.kp s3)
    refine ⟨_, rfl, _, _, rfl, rfl, _, _, rfl, ?_⟩
    have en : V.int ((st : Int) + 1) = vN (st + 1) := rfl
    have n1 : ((st : Int) + 1).toNat = st + 1 := by omega
    refine ⟨_, rfl, _, _, rfl, rfl, _, rfl, by omega, by omega, for_range (lo := 0) (n := ((st : Int) + 1).toNat) (fun i σ H' => ∃ (n : Nat) (L : List (Addr × (Nat × Nat))) (v6 v7 : Option V), σ = [some (.ref p), some (vN most), some (vN o), some (vN st), some (.ref d), some (vN n), v6, v7, none, none] ∧ PoolAt H' p l ∧ Kp [p, l] H H' ∧
      H' d = some (.lst (L.map fun r => V.ref r.1)) ∧ TupsAt H' L ∧ L.length + 1 = n ∧ st + 1 + i ≤ n ∧ n ≤ st + 1 + o * i + (if i = st + 1 then 1 else 0) ∧ ∀ r ∈ L, r.2.1 < n ∧ r.2.2 < n) ?_ ?_ ?_⟩
    · exact ⟨st + 1, L0, _, _, rfl, hP3, k13, hD3, hL3, by omega, by omega, by omega, inL0⟩
    · rintro i σ H4 hi ⟨n, L, v6, v7, rfl, hP4, k4, hD4, hL4, lL, lo4, hi4, inL⟩
      rw [n1] at hi
      have e0 : (0 : Int) + (i : Nat) = (i : Nat) := by omega
      rw [if_neg (by omega)] at hi4
      have cap : o * (i + 1) ≤ o * (st + 1) := Nat.mul_le_mul_left o (by omega)
      have cap2 : st + 1 + o * (st + 1) + 1 ≤ most := by
        have : (st + 1) * (o + 1) = o * (st + 1) + (st + 1) := by rw [Nat.mul_comm, Nat.add_one_mul]
        omega
      rw [Nat.mul_succ] at cap
      refine ⟨_, rfl, _, rfl, _, rfl, rfl, .inr ⟨_, rfl, _, _, rfl, rfl, _, rfl, ?_⟩⟩
      obtain ⟨z, ez, z1, z2⟩ : ∃ z : Nat, (o : Int) + (if decide (V.int (0 + (i : Nat)) = vN st) = true then 1 else 0) = (z : Int) ∧ 1 ≤ z ∧ z = o + (if i = st then 1 else 0) := by
        by_cases h : i = st
        · refine ⟨o + 1, ?_, by omega, by rw [if_pos h]⟩
          rw [if_pos (by rw [e0, h]; exact decide_eq_true rfl)]
          omega
        · refine ⟨o, ?_, by omega, by rw [if_neg h]; rfl⟩
          rw [if_neg (by
            rw [e0, decide_eq_true_eq]
            intro z
            have z' : (i : Int) = st := V.int.inj z
            exact h (by omega))]
          omega
      show -2 ^ 62 ≤ (o : Int) + (if decide (V.int (0 + (i : Nat)) = vN st) = true then 1 else 0) ∧ _
      rw [ez]
      have zo : z ≤ o + 1 := by
        rw [z2]
        by_cases h : i = st
        · rw [if_pos h]; omega
        · rw [if_neg h]; omega
      refine ⟨by omega, by omega, for_range (lo := 0) (n := z) (fun j σ H' => ∃ (L' : List (Addr × (Nat × Nat))) (v7 : Option V), σ = [some (.ref p), some (vN most), some (vN o), some (vN st), some (.ref d), some (vN (n + j)), some (.int (0 + (i : Nat))), v7, none, none] ∧ PoolAt H' p l ∧ Kp [p, l] H H' ∧
        H' d = some (.lst (L'.map fun r => V.ref r.1)) ∧ TupsAt H' L' ∧ L'.length + 1 = n + j ∧ ∀ r ∈ L', r.2.1 < n + j ∧ r.2.2 < n + j) ⟨L, _, rfl, hP4, k4, hD4, hL4, lL, inL⟩ ?_ ?_⟩
      · rintro j σ H5 hj ⟨L5, v7', rfl, hP5, k5, hD5, hL5, l5, in5⟩
        refine ⟨_, rfl, .inl ⟨rfl, _, .inl (.inl hD5)⟩, _, rfl, _, rfl, by show 2 ≤ sizeLine; decide, fun t ht => ?_⟩
        have s6 : Same H5 (upd H5 t (.tup [.int (0 + (i : Nat)), vN (n + j)])) := same_upd ht
        have hT6 : (upd H5 t (.tup [.int (0 + (i : Nat)), vN (n + j)])) t = some (.tup [vN i, vN (n + j)]) := by
          rw [upd_same, e0]
          rfl
        have hD6 := s6 _ _ hD5
        refine ⟨d, _, _, rfl, rfl, hD6, by rw [List.length_map]; exact small1000 (by omega), ?_⟩
        refine ⟨_, rfl, _, _, rfl, rfl, L5 ++ [(t, (i, n + j))], _, rfl, (hP5.same s6).set dpl, kset hd0 (k5.trans (Same.kp s6)), by rw [upd_same, List.map_append]; rfl, ((hL5.same s6).add hT6).set hD6, by rw [List.length_append, List.length_singleton]; omega, ?_⟩
        intro r hr'
        rcases List.mem_append.mp hr' with hr' | hr'
        · have := in5 r hr'
          omega
        · rw [List.mem_singleton.mp hr']
          exact ⟨by show i < n + (j + 1); omega, by show n + j < n + (j + 1); omega⟩
      · rintro σ H5 ⟨L5, v7', rfl, hP5, k5, hD5, hL5, l5, in5⟩
        refine ⟨n + z, L5, _, _, rfl, hP5, k5, hD5, hL5, l5, by omega, ?_, in5⟩
        rw [Nat.mul_succ, z2]
        by_cases h : i = st
        · rw [if_pos h, if_pos (by omega)]
          omega
        · rw [if_neg h, if_neg (by omega)]
          omega
    rintro σ H4 ⟨n, L, v6, v7, rfl, hP4, k4, hD4, hL4, lL, lo4, hi4, inL⟩
    rw [n1] at lo4 hi4
    rw [if_pos rfl] at hi4
    have nm : n ≤ most := by
      have : (st + 1) * (o + 1) = o * (st + 1) + (st + 1) := by rw [Nat.mul_comm, Nat.add_one_mul]
      omega
    refine ⟨_, rfl, _, _, rfl, rfl, _, rfl, _, _, rfl, rfl, .of_le (by omega) (by omega) (by omega) (by omega), fun e he => ?_⟩
    have epl : e ∉ [p, l] := hP4.free he
    have nde : d ≠ e := ne_of_none hD4 he
    have he0 : H e = none := kp_free k4 epl he
    have s5 : Same H4 (upd H4 e (.lst (rgV ((st : Int) + 1) (n : Int)))) := same_upd he
    have hE5 : (upd H4 e (.lst (rgV ((st : Int) + 1) (n : Int)))) e = some (.lst ((List.range' (st + 1) (n - (st + 1))).map vN)) := by
      rw [upd_same]
      have := rgV_from (a := st + 1) (b := n) (by omega)
      exact congrArg some (congrArg HO.lst this)
    have hD5 := s5 _ _ hD4
    have hL5 := hL4.same s5
    have hP5 := hP4.same s5
    have k5 := k4.trans (Same.kp s5)
    generalize upd H4 e (.lst (rgV ((st : Int) + 1) (n : Int))) = H5 at s5 hE5 hD5 hL5 hP5 k5
    obtain ⟨W, eW⟩ : ∃ W, W = List.range' (st + 1) (n - (st + 1)) := ⟨_, rfl⟩
    rw [← eW] at hE5
    have Wlen : W.length = n - (st + 1) := by rw [eW, List.length_range']
    have inW : ∀ x ∈ W, x < n := fun x hx => by
      rw [eW] at hx
      have := List.mem_range'_1.mp hx
      omega
    refine ⟨_, rfl, _, _, rfl, rfl, _, rfl, by omega, by omega, for_range (lo := 0) (n := ((st : Int) + 1).toNat) (fun i σ H' => ∃ (L' : List (Addr × (Nat × Nat))) (v6 v9 : Option V), σ = [some (.ref p), some (vN most), some (vN o), some (vN st), some (.ref d), some (vN n), v6, v7, some (.ref e), v9] ∧ PoolAt H' p l ∧ Kp [p, l] H H' ∧
      H' d = some (.lst (L'.map fun r => V.ref r.1)) ∧ TupsAt H' L' ∧ H' e = some (.lst (W.map vN)) ∧ L'.length ≤ n + i ∧ ∀ r ∈ L', r.2.1 < n ∧ r.2.2 < n)
      ⟨L, _, _, rfl, hP5, k5, hD5, hL5, hE5, by omega, inL⟩ ?_ ?_⟩
    · rintro i σ H6 hi ⟨L6, v6', v9, rfl, hP6, k6, hD6, hL6, hE6, l6, in6⟩
      rw [n1] at hi
      have e0 : (0 : Int) + (i : Nat) = (i : Nat) := by omega
      have ei : V.int (0 + (i : Nat)) = vN i := by rw [e0]; rfl
      refine ⟨_, rfl, p, l, 9, rfl, hP6, by decide, by decide, fun way H7 hway hP7 k7 => ?_⟩
      have hD7 := k7 _ _ dpl hD6
      have hE7 := k7 _ _ epl hE6
      have hL7 : TupsAt H7 L6 := hL6.keep k7 hP6.lists
      have k67 := k6.trans k7
      have smallL : (L6.map fun r => V.ref r.1).length < sizeLine := by rw [List.length_map]; exact small1000 (by omega)
      have road : ∀ (y : Nat) (H8 : Hp) (t : Addr) v6' v9', y < n → PoolAt H8 p l → Kp [p, l] H7 H8 → H8 t = none → ∃ (L' : List (Addr × (Nat × Nat))) (v6 v9 : Option V), [some (.ref p), some (vN most), some (vN o), some (vN st), some (.ref d), some (vN n), v6', v7, some (.ref e), v9'] = [some (.ref p), some (vN most), some (vN o), some (vN st), some (.ref d), some (vN n), v6, v7, some (.ref e), v9] ∧ PoolAt (upd (upd H8 t (.tup [.int (0 + (i : Nat)), vN y])) d (.lst ((L6.map fun r => V.ref r.1) ++ [.ref t]))) p l ∧ Kp [p, l] H (upd (upd H8 t (.tup [.int (0 + (i : Nat)), vN y])) d (.lst ((L6.map fun r => V.ref r.1) ++ [.ref t]))) ∧
          (upd (upd H8 t (.tup [.int (0 + (i : Nat)), vN y])) d (.lst ((L6.map fun r => V.ref r.1) ++ [.ref t]))) d = some (.lst (L'.map fun r => V.ref r.1)) ∧ TupsAt (upd (upd H8 t (.tup [.int (0 + (i : Nat)), vN y])) d (.lst ((L6.map fun r => V.ref r.1) ++ [.ref t]))) L' ∧ (upd (upd H8 t (.tup [.int (0 + (i : Nat)), vN y])) d (.lst ((L6.map fun r => V.ref r.1) ++ [.ref t]))) e = some (.lst (W.map vN)) ∧ L'.length ≤ n + (i + 1) ∧ ∀ r ∈ L', r.2.1 < n ∧ r.2.2 < n := by
        intro y H8 t v6' v9' hy hP8 k8 ht
        have s9 : Same H8 (upd H8 t (.tup [.int (0 + (i : Nat)), vN y])) := same_upd ht
        have hT9 : (upd H8 t (.tup [.int (0 + (i : Nat)), vN y])) t = some (.tup [vN i, vN y]) := by
          rw [upd_same, e0]
          rfl
        have hD9 := s9 _ _ (k8 _ _ dpl hD7)
        have hL8 : TupsAt H8 L6 := hL7.keep k8 hP7.lists
        refine ⟨L6 ++ [(t, (i, y))], v6', v9', rfl, (hP8.same s9).set dpl, kset hd0 ((k67.trans k8).trans (Same.kp s9)), by rw [upd_same, List.map_append]; rfl, ((hL8.same s9).add hT9).set hD9, by rw [upd_ne nde.symm]; exact s9 _ _ (k8 _ _ epl hE7), by rw [List.length_append, List.length_singleton]; omega, ?_⟩
        intro r hr'
        rcases List.mem_append.mp hr' with hr' | hr'
        · exact in6 r hr'
        · rw [List.mem_singleton.mp hr']
          exact ⟨by show i < n; omega, hy⟩
      refine ⟨_, rfl, _, _, rfl, rfl, _, rfl, ite_any (fun _ => ?_) (fun _ => ?_)⟩
      · refine ⟨_, rfl, .inl ⟨rfl, _, .inl (.inl hD7)⟩, _, rfl, _, rfl, by show 2 ≤ sizeLine; decide, fun t ht => ?_⟩
        have h9 : (upd H7 t (.tup [.int (0 + (i : Nat)), .int (0 + (i : Nat))])) d = some (.lst (L6.map fun r => V.ref r.1)) := (same_upd ht) _ _ hD7
        refine ⟨d, _, _, rfl, rfl, h9, smallL, ?_⟩
        have := road i H7 t (some (.int (0 + (i : Nat)))) (some (vN way)) (by omega) hP7 (Kp.refl _ _) ht
        rw [← ei] at this
        exact this
      · refine ⟨_, rfl, rfl, _, rfl, ite_any (fun _ => ?_) (fun _ => ?_)⟩
        · refine ⟨_, rfl, .inl ⟨rfl, _, .inl (.inl hD7)⟩, _, rfl, _, rfl, _, rfl, _, _, rfl, rfl, p, l, i + 1, ?_, hP7, by omega, by omega, fun y H8 hy hP8 k8 => ?_⟩
          · have : (0 : Int) + (i : Nat) + 1 = ((i + 1 : Nat) : Int) := by omega
            show [V.ref p, V.int (0 + (i : Nat) + 1)] = [V.ref p, V.int ((i + 1 : Nat) : Int)]
            rw [this]
          · refine ⟨by show 2 ≤ sizeLine; decide, fun t ht => ?_⟩
            have h9 : (upd H8 t (.tup [.int (0 + (i : Nat)), vN y])) d = some (.lst (L6.map fun r => V.ref r.1)) := (same_upd ht) _ _ (k8 _ _ dpl hD7)
            exact ⟨d, _, _, rfl, rfl, h9, smallL, road y H8 t _ _ (by omega) hP8 k8 ht⟩
        · refine ⟨_, rfl, rfl, _, rfl, ite_any (fun _ => ?_) (fun _ => ?_)⟩
          · refine ⟨_, rfl, .inl ⟨rfl, _, .inl (.inl hD7)⟩, _, rfl, _, rfl, _, rfl, p, l, e, W.map vN, rfl, hP7, .inl (.inl hE7), epl, by rw [List.length_map]; omega, by rw [List.length_map]; omega, fun y H8 hy hP8 k8 => ?_⟩
            obtain ⟨y', hy', rfl⟩ := List.mem_map.mp hy
            refine ⟨by show 2 ≤ sizeLine; decide, fun t ht => ?_⟩
            have h9 : (upd H8 t (.tup [.int (0 + (i : Nat)), vN y'])) d = some (.lst (L6.map fun r => V.ref r.1)) := (same_upd ht) _ _ (k8 _ _ dpl hD7)
            exact ⟨d, _, _, rfl, rfl, h9, smallL, road y' H8 t _ _ (inW y' hy') hP8 k8 ht⟩
          · exact ⟨L6, _, _, rfl, hP7, k67, hD7, hL7, hE7, by omega, in6⟩
    rintro σ H6 ⟨L6, v6', v9, rfl, hP6, k6, hD6, hL6, hE6, l6, in6⟩
    rw [n1] at l6
    have smallL : (L6.map fun r => V.ref r.1).length < sizeLine := by rw [List.length_map]; exact small1000 (by omega)
    refine ⟨fun σ' H' => ∃ (d' : Addr) (n' : Nat) (L' : List (Addr × (Nat × Nat))) (W' : List Nat) (v6 v9 : Option V), σ' = [some (.ref p), some (vN most), some (vN o), some (vN st), some (.ref d'), some (vN n'), v6, v7, some (.ref e), v9] ∧ PoolAt H' p l ∧ Kp [p, l] H H' ∧ d' ∉ [p, l] ∧ H' d' = some (.lst (L'.map fun r => V.ref r.1)) ∧ TupsAt H' L' ∧ H' e = some (.lst (W'.map vN)) ∧
      0 < n' ∧ n' ≤ 20 ∧ L'.length < 64 ∧ (∀ r ∈ L', r.2.1 < n' ∧ r.2.2 < n') ∧ (∀ x ∈ W', x < n') ∧ W'.length < 64, ?_, ?_⟩
    · have same : ∀ H7, PoolAt H7 p l → Kp [p, l] H6 H7 → ∃ (d' : Addr) (n' : Nat) (L' : List (Addr × (Nat × Nat))) (W' : List Nat) (v6 v9_1 : Option V), [some (.ref p), some (vN most), some (vN o), some (vN st), some (.ref d), some (vN n), v6', v7, some (.ref e), v9] = [some (.ref p), some (vN most), some (vN o), some (vN st), some (.ref d'), some (vN n'), v6, v7, some (.ref e), v9_1] ∧ PoolAt H7 p l ∧ Kp [p, l] H H7 ∧ d' ∉ [p, l] ∧ H7 d' = some (.lst (L'.map fun r => V.ref r.1)) ∧ TupsAt H7 L' ∧ H7 e = some (.lst (W'.map vN)) ∧
          0 < n' ∧ n' ≤ 20 ∧ L'.length < 64 ∧ (∀ r ∈ L', r.2.1 < n' ∧ r.2.2 < n') ∧ (∀ x ∈ W', x < n') ∧ W'.length < 64 := fun H7 hP7 k7 =>
        ⟨d, n, L6, W, _, _, rfl, hP7, k6.trans k7, dpl, k7 _ _ dpl hD6, hL6.keep k7 hP6.lists, k7 _ _ epl hE6, by omega, by omega, by omega, in6, inW, by omega⟩
      refine ⟨_, rfl, _, _, rfl, rfl, _, rfl, _, _, rfl, rfl, _, rfl, ite_any (fun h2 => ?_) (fun _ => ?_)⟩
      · have h2' := of_decide_eq_true h2
        refine ⟨_, rfl, p, l, 2, rfl, hP6, by decide, by decide, fun x H7 _ hP7 k7 => ⟨rfl, _, rfl, ite_any (fun _ => ?_) (fun _ => ?_)⟩⟩
        · have hD7 := k7 _ _ dpl hD6
          refine ⟨_, rfl, _, rfl, _, rfl, _, _, rfl, rfl, by show 2 ≤ sizeLine; decide, fun ta hta => ?_⟩
          have s8 : Same H7 (upd H7 ta (.tup [vN n, .int ((n : Int) + 1)])) := same_upd hta
          have hT8 : (upd H7 ta (.tup [vN n, .int ((n : Int) + 1)])) ta = some (.tup [vN n, vN (n + 1)]) := upd_same
          have hP8 := hP7.same s8
          generalize upd H7 ta (.tup [vN n, .int ((n : Int) + 1)]) = H8 at s8 hT8 hP8
          refine ⟨_, rfl, _, rfl, _, rfl, p, l, 2, rfl, hP8, by decide, by decide, fun y H9 hy hP9 k9 => ?_⟩
          have hta9 : ta ∉ [p, l] := hP7.free hta
          have hT9 := k9 _ _ hta9 hT8
          refine ⟨_, _, rfl, rfl, by show 2 ≤ sizeLine; decide, fun tb htb => ?_⟩
          have s10 : Same H9 (upd H9 tb (.tup [vN n, .int ((n : Int) + (y : Int))])) := same_upd htb
          have hB10 : (upd H9 tb (.tup [vN n, .int ((n : Int) + (y : Int))])) tb = some (.tup [vN n, vN (n + y)]) := upd_same
          have hA10 := s10 _ _ hT9
          generalize upd H9 tb (.tup [vN n, .int ((n : Int) + (y : Int))]) = H10 at s10 hB10 hA10
          refine ⟨by show 2 ≤ sizeLine; decide, fun g hg => ?_⟩
          have s11 : Same H10 (upd H10 g (.lst [.ref ta, .ref tb])) := same_upd hg
          have hG11 : (upd H10 g (.lst [.ref ta, .ref tb])) g = some (.lst [.ref ta, .ref tb]) := upd_same
          have k611 : Kp [p, l] H6 (upd H10 g (.lst [.ref ta, .ref tb])) := ((k7.trans (Same.kp s8)).trans k9).trans (Same.kp (s10.trans s11))
          have hA11 := s11 _ _ hA10
          have hB11 := s11 _ _ hB10
          have hP11 := hP9.same (s10.trans s11)
          generalize upd H10 g (.lst [.ref ta, .ref tb]) = H11 at s11 hG11 k611 hA11 hB11 hP11
          have hD11 := k611 _ _ dpl hD6
          refine ⟨d, g, _, _, rfl, rfl, hD11, hG11, by rw [List.length_map]; have : (1000 : Nat) ≤ sizeLine := by decide
                                                       show L6.length + 2 ≤ sizeLine
                                                       omega, fun z hz => ?_⟩
          have s12 : Same H11 (upd H11 z (.lst ((L6.map fun r => V.ref r.1) ++ [.ref ta, .ref tb]))) := same_upd hz
          have hZ12 : (upd H11 z (.lst ((L6.map fun r => V.ref r.1) ++ [.ref ta, .ref tb]))) z = some (.lst ((L6 ++ [(ta, (n, n + 1)), (tb, (n, n + y))]).map fun r => V.ref r.1)) := by
            rw [upd_same, List.map_append]
            rfl
          have hL12 : TupsAt (upd H11 z (.lst ((L6.map fun r => V.ref r.1) ++ [.ref ta, .ref tb]))) (L6 ++ [(ta, (n, n + 1)), (tb, (n, n + y))]) := fun r hr' => by
            rcases List.mem_append.mp hr' with hr' | hr'
            · exact s12 _ _ ((hL6.keep k611 hP6.lists) r hr')
            · rcases List.mem_cons.mp hr' with e1 | hr'
              · rw [e1]; exact s12 _ _ hA11
              · rw [List.mem_singleton.mp hr']; exact s12 _ _ hB11
          have zpl : z ∉ [p, l] := hP11.free hz
          have hE12 := s12 _ _ (k611 _ _ epl hE6)
          have nze : z ≠ e := (ne_of_none (k611 _ _ epl hE6) hz).symm
          have hP12 := hP11.same s12
          have k12' := (k6.trans k611).trans (Same.kp s12)
          generalize upd H11 z (.lst ((L6.map fun r => V.ref r.1) ++ [.ref ta, .ref tb])) = H12 at s12 hZ12 hL12 hE12 hP12 k12'
          refine ⟨_, rfl, .inl ⟨rfl, _, .inl (.inl hE12)⟩, _, rfl, _, _, rfl, rfl, e, _, _, rfl, rfl, hE12, by rw [List.length_map]; exact small1000 (by omega), ?_⟩
          refine ⟨_, rfl, _, _, rfl, rfl, z, n + 2, _, W ++ [n + 1], _, _, rfl, hP12.set epl, kset he0 k12', zpl, by rw [upd_ne nze]; exact hZ12, hL12.set hE12, by rw [upd_same, List.map_append]; rfl, by omega, by omega, by rw [List.length_append]; show L6.length + 2 < 64; omega, ?_, ?_, by rw [List.length_append]; show W.length + 1 < 64; omega⟩
          · intro r hr'
            rcases List.mem_append.mp hr' with hr' | hr'
            · have := in6 r hr'
              omega
            · rcases List.mem_cons.mp hr' with e1 | hr'
              · rw [e1]
                exact ⟨by show n < n + 2; omega, by show n + 1 < n + 2; omega⟩
              · rw [List.mem_singleton.mp hr']
                exact ⟨by show n < n + 2; omega, by show n + y < n + 2; omega⟩
          · intro x hx
            rcases List.mem_append.mp hx with hx | hx
            · have := inW x hx
              omega
            · rw [List.mem_singleton.mp hx]
              omega
        · refine ⟨_, rfl, _, rfl, _, _, rfl, rfl, _, rfl, ite_any (fun h3 => ?_) (fun _ => same H7 hP7 k7)⟩
          have h3' := of_decide_eq_true h3
          have hDx := k7 _ _ dpl hD6
          refine ⟨_, rfl, .inl ⟨rfl, _, .inl (.inl hDx)⟩, _, rfl, _, rfl, _, rfl, p, l, st, rfl, hP7, by omega, by omega, fun y H8 hy hP8 k8 => ?_⟩
          have k68 := k7.trans k8
          refine ⟨_, _, rfl, rfl, by show 2 ≤ sizeLine; decide, fun t ht => ?_⟩
          have s9 : Same H8 (upd H8 t (.tup [vN n, .int (1 + (y : Int))])) := same_upd ht
          have hT9 : (upd H8 t (.tup [vN n, .int (1 + (y : Int))])) t = some (.tup [vN n, vN (1 + y)]) := upd_same
          have hD9 := s9 _ _ (k68 _ _ dpl hD6)
          have hL8 : TupsAt H8 L6 := hL6.keep k68 hP6.lists
          refine ⟨d, _, _, rfl, rfl, hD9, smallL, ?_⟩
          refine ⟨_, rfl, _, _, rfl, rfl, d, n + 1, L6 ++ [(t, (n, 1 + y))], W, _, _, rfl, (hP8.same s9).set dpl, kset hd0 ((k6.trans k68).trans (Same.kp s9)), dpl, by rw [upd_same, List.map_append]; rfl, ((hL8.same s9).add hT9).set hD9, by rw [upd_ne nde.symm]; exact s9 _ _ (k68 _ _ epl hE6), by omega, by omega, by rw [List.length_append, List.length_singleton]; omega, ?_, fun x hx => by have := inW x hx; omega, by omega⟩
          intro r hr'
          rcases List.mem_append.mp hr' with hr' | hr'
          · have := in6 r hr'
            omega
          · rw [List.mem_singleton.mp hr']
            exact ⟨by show n < n + 1; omega, by show 1 + y < n + 1; omega⟩
      · refine ⟨_, rfl, _, rfl, _, _, rfl, rfl, _, rfl, ite_any (fun h3 => ?_) (fun _ => same H6 hP6 (Kp.refl [p, l] H6))⟩
        have h3' := of_decide_eq_true h3
        have hDx := hD6
        refine ⟨_, rfl, .inl ⟨rfl, _, .inl (.inl hDx)⟩, _, rfl, _, rfl, _, rfl, p, l, st, rfl, hP6, by omega, by omega, fun y H8 hy hP8 k8 => ?_⟩
        have k68 := (Kp.refl [p, l] H6).trans k8
        refine ⟨_, _, rfl, rfl, by show 2 ≤ sizeLine; decide, fun t ht => ?_⟩
        have s9 : Same H8 (upd H8 t (.tup [vN n, .int (1 + (y : Int))])) := same_upd ht
        have hT9 : (upd H8 t (.tup [vN n, .int (1 + (y : Int))])) t = some (.tup [vN n, vN (1 + y)]) := upd_same
        have hD9 := s9 _ _ (k68 _ _ dpl hD6)
        have hL8 : TupsAt H8 L6 := hL6.keep k68 hP6.lists
        refine ⟨d, _, _, rfl, rfl, hD9, smallL, ?_⟩
        refine ⟨_, rfl, _, _, rfl, rfl, d, n + 1, L6 ++ [(t, (n, 1 + y))], W, _, _, rfl, (hP8.same s9).set dpl, kset hd0 ((k6.trans k68).trans (Same.kp s9)), dpl, by rw [upd_same, List.map_append]; rfl, ((hL8.same s9).add hT9).set hD9, by rw [upd_ne nde.symm]; exact s9 _ _ (k68 _ _ epl hE6), by omega, by omega, by rw [List.length_append, List.length_singleton]; omega, ?_, fun x hx => by have := inW x hx; omega, by omega⟩
        intro r hr'
        rcases List.mem_append.mp hr' with hr' | hr'
        · have := in6 r hr'
          omega
        · rw [List.mem_singleton.mp hr']
          exact ⟨by show n < n + 1; omega, by show 1 + y < n + 1; omega⟩
    · rintro σ' H7 ⟨d', n', L', W', v6, v9', rfl, hP7, k7, dpl', hD7, hL7, hE7, n0, n20, l64, in7, inW7, w64⟩
      have ePr : (L'.map fun r => V.ref r.1) = (L'.map (·.1)).map V.ref := by rw [List.map_map]; rfl
      rw [ePr] at hD7
      refine ⟨_, rfl, _, rfl, _, rfl, _, rfl, p, l, d', e, n', L'.map (·.1), L'.map (·.2), W', rfl, hP7, by omega, hD7, dpl', hL7.pairs, by rw [List.length_map]; exact l64, ?_, hE7, epl, w64, inW7, fun q' c na perm C H8 pm _ _ hQ hC _ nmd hP8 k8 => ?_⟩
      · intro r hr'
        obtain ⟨z, hz, rfl⟩ := List.mem_map.mp hr'
        exact in7 z hz
      · exact ⟨q', _, _, _, rfl, rfl, .inl (.inl hQ), rfl, q c C H8 hC nmd.ok (by rw [nmd.n]; exact n0) hP8 (k7.trans k8)⟩
end
end Ft

set_option Elab.async false
set_option linter.all false
set_option maxRecDepth 100000
set_option maxHeartbeats 8000000
namespace Ft
open PySem PySem.Spec PyProof.Rows L2
section
variable {P : Program} {w : World} {K : PySem.W.Frag} {mg : Str → Option Value} {base : Heap} {t1 t2 : Tok}
/-! ### _law_bound_chart -/
def sp_law_bound_chart (K : PySem.W.Frag) : Sp := fun vs H Q _ => ∃ (p l : Addr) (most : Nat), vs = [.ref p, vN most] ∧ PoolAt H p l ∧ 5 ≤ most ∧ most ≤ 18 ∧ ∀ (c : Addr) (C : Chart) (H' : Hp), IsChart K H' c C → C.Ok → 0 < C.n → PoolAt H' p l → Kp [p, l] H H' → Q (.ref c) H'
theorem cal_law_bound_chart (T : Txt mg) (D : Def K mg "_law_bound_chart" s_law_bound_chart) (c_law_draw : Cal P w K mg base 2 "_law_draw" sp_law_draw) (c_law_map_drawn : Cal P w K mg base 5 "_law_map_drawn" (sp_law_map_drawn K)) (c_law_bound_tree : Cal P w K mg base 5 "_law_bound_tree" (sp_law_bound_tree K)) (c_law_bound_spine : Cal P w K mg base 5 "_law_bound_spine" (sp_law_bound_spine K)) : Cal P w K mg base 6 "_law_bound_chart" (sp_law_bound_chart K) := by
  refine cal_of D sc_law_bound_chart (fun _ _ _ _ _ _ us hl => match us, hl with | [_, _], _ => rfl) (fun vs H Q E h => ?_) (fun f cdv A outer s H vs Q E hr h => ?_)
  · obtain ⟨p, l, most, rfl, _⟩ := h
    rfl
  · obtain ⟨p, l, most, rfl, hP, m5, m18, q⟩ := h
    refine ⟨_, (pss_cons (ps_set (i := 2) sc_law_bound_chart.nd rfl (Or.inl rfl) (pe_c c_law_draw hr (by decide) (by rfl) (pa_cons (pv 0) (pa_cons pe_int pa_nil))))
      (pss_cons (ps_if (pt_cmpR op_gt (pv 2) pe_int (nomark _)) (pss_one (ps_ret (pe_c c_law_bound_spine hr (by decide) (by rfl) (pa_cons (pv 0) (pa_cons (pe_op op_add (pv 1) pe_int) pa_nil))))) pss_nil)
      (pss_cons (ps_set (i := 3) sc_law_bound_chart.nd rfl (Or.inl rfl) (pe_mid (pe_ifExp (pt_cmpR op_eq (pv 2) pe_int (nomark _)) (pe_c c_law_map_drawn hr (by decide) (by rfl) (pa_cons (pv 0) (pa_cons (pv 1) pa_nil))) (pe_c c_law_bound_tree hr (by decide) (by rfl) (pa_cons (pv 0) (pa_cons (pe_op op_add pe_int (pe_c c_law_draw hr (by decide) (by rfl) (pa_cons (pv 0) (pa_cons (pe_op op_sub (pv 1) pe_int) pa_nil)))) pa_nil))))))
      (pss_one (ps_ret (pe_ifExp (pt_cmpR op_gt (pe_ix (show IxR _ (rIxT K) from ix_tup) (pv 3) pe_int (fun _ _ => rfl)) pe_int (nomark _)) (pv 3) (pe_tup (pa_cons pe_int (pa_cons (pe_tup (pa_cons (pe_tup (pa_cons pe_int (pa_cons pe_int pa_nil))) pa_nil)) (pa_cons (pe_tup pa_nil) pa_nil)))))))))), ?_⟩
    refine ⟨_, rfl, p, l, 4, rfl, hP, by decide, by decide, fun way H1 _ hP1 k1 => ?_⟩
    refine ⟨_, rfl, _, _, rfl, rfl, _, rfl, ite_any (fun _ => ?_) (fun _ => ?_)⟩
    · exact ⟨_, rfl, _, rfl, _, _, rfl, rfl, p, l, most + 2, rfl, hP1, by omega, by omega, fun c C H2 hC ok n0 hP2 k2 => q c C H2 hC ok n0 hP2 (k1.trans k2)⟩
    · refine ⟨fun v H' => ∃ (c : Addr) (C : Chart), v = .ref c ∧ IsChart K H' c C ∧ C.Ok ∧ PoolAt H' p l ∧ Kp [p, l] H H', ⟨_, rfl, rfl, _, rfl, ite_any (fun _ => ?_) (fun _ => ?_)⟩, ?_⟩
      · exact ⟨_, rfl, _, rfl, p, l, most, rfl, hP1, by omega, fun c C H2 hC ok _ hP2 k2 => ⟨c, C, rfl, hC, ok, hP2, k1.trans k2⟩⟩
      · refine ⟨_, rfl, _, rfl, _, rfl, _, _, rfl, rfl, p, l, most - 2, ?_, hP1, by omega, by omega, fun x H2 hx hP2 k2 => ?_⟩
        · show [V.ref p, V.int ((most : Int) - 2)] = [V.ref p, V.int ((most - 2 : Nat) : Int)]
          rw [show ((most - 2 : Nat) : Int) = (most : Int) - 2 by omega]
        · exact ⟨_, _, rfl, rfl, p, l, 3 + x, rfl, hP2, by omega, by omega, fun c C H3 hC ok hP3 k3 => ⟨c, C, rfl, hC, ok, hP3, (k1.trans k2).trans k3⟩⟩
      rintro v H2 ⟨c, C, rfl, ⟨r, wd, ts, hC⟩, ok, hP2, k2⟩
      refine ⟨_, rfl, c, _, _, _, rfl, rfl, hC.top, rfl, _, _, rfl, rfl, _, rfl, ite_any (fun h => ?_) (fun _ => ?_)⟩
      · have h' := of_decide_eq_true h
        exact ⟨_, rfl, q c C H2 ⟨r, wd, ts, hC⟩ ok (by omega) hP2 k2⟩
      · refine ⟨by show 2 ≤ sizeLine; decide, fun t ht => ?_⟩
        have s3 : Same H2 (upd H2 t (.tup [.int 0, .int 0])) := same_upd ht
        have hT : (upd H2 t (.tup [.int 0, .int 0])) t = some (.tup [vN 0, vN 0]) := upd_same
        generalize upd H2 t (.tup [.int 0, .int 0]) = H3 at s3 hT
        refine ⟨by show 1 ≤ sizeLine; decide, fun r1 hr1 => ?_⟩
        have s4 : Same H3 (upd H3 r1 (.tup [.ref t])) := same_upd hr1
        have hR : (upd H3 r1 (.tup [.ref t])) r1 = some (.tup ([t].map V.ref)) := upd_same
        have hT4 := s4 _ _ hT
        generalize upd H3 r1 (.tup [.ref t]) = H4 at s4 hR hT4
        refine ⟨Nat.zero_le _, fun w1 hw1 => ?_⟩
        have s5 : Same H4 (upd H4 w1 (.tup [])) := same_upd hw1
        have hW : (upd H4 w1 (.tup [])) w1 = some (.tup (([] : List Nat).map vN)) := upd_same
        generalize upd H4 w1 (.tup []) = H5 at s5 hW
        refine ⟨by show 3 ≤ sizeLine; decide, fun c1 hc1 => ?_⟩
        have s6 : Same H5 (upd H5 c1 (.tup [.int 1, .ref r1, .ref w1])) := same_upd hc1
        have s26 := (s3.trans s4).trans (s5.trans s6)
        refine q c1 ⟨1, [(0, 0)], []⟩ _ ⟨r1, w1, [t], .inl (.inl upd_same), .inl (.inl (s6 _ _ (s5 _ _ hR))), .cons (.inl (.inl (s6 _ _ (s5 _ _ hT4)))) .nil, .inl (.inl (s6 _ _ hW))⟩ ⟨by decide, by decide, by decide, List.pairwise_singleton _ _, by decide, by decide⟩ (by decide) (hP2.same s26) (k2.trans (Same.kp s26))
end
end Ft

set_option Elab.async false
set_option linter.all false
set_option maxRecDepth 100000
set_option maxHeartbeats 4000000
namespace Ft
open PySem PySem.Spec PyProof.Rows L2
/-! ### what repr shows of rows of places -/
def encL (l : List Nat) : PyData := .tuple (l.map fun (n : Nat) => .int (n : Int))
theorem small_int : ∀ n : Fin 64, (PyData.int ((n.1 : Nat) : Int)).showable = true ∧ (PyData.int ((n.1 : Nat) : Int)).leavesShort 13 = true ∧ (PyData.int ((n.1 : Nat) : Int)).weight ≤ 7 := by decide +kernel
theorem small_nat {n : Nat} (h : n < 64) : (PyData.int (n : Int)).showable = true ∧ (PyData.int (n : Int)).leavesShort 13 = true ∧ (PyData.int (n : Int)).weight ≤ 7 := small_int ⟨n, h⟩
theorem ints_shown : ∀ l : List Nat, (∀ n ∈ l, n < 64) → PyData.showableAll (l.map fun (n : Nat) => .int (n : Int)) = true ∧ PyData.leavesShortAll 13 (l.map fun (n : Nat) => .int (n : Int)) = true ∧ PyData.weightAll (l.map fun (n : Nat) => .int (n : Int)) ≤ 8 * l.length ∧ PyData.depthAll (l.map fun (n : Nat) => .int (n : Int)) = 0
  | [], _ => by simp [PyData.showableAll, PyData.leavesShortAll, PyData.weightAll, PyData.depthAll]
  | n :: l, h => by
    obtain ⟨a1, a2, a3⟩ := small_nat (h n List.mem_cons_self)
    obtain ⟨b1, b2, b3, b4⟩ := ints_shown l fun m hm => h m (List.mem_cons_of_mem _ hm)
    simp only [List.map_cons, PyData.showableAll, PyData.leavesShortAll, PyData.weightAll, PyData.depthAll, a1, a2, b1, b2, b4, List.length_cons, PyData.depth, Bool.and_self, Nat.max_self, true_and, and_true]
    omega
theorem shows_row {l : List Nat} (h : ∀ n ∈ l, n < 64) (few : l.length ≤ 64) : Shows (encL l) := by
  obtain ⟨b1, b2, b3, b4⟩ := ints_shown l h
  unfold encL
  refine ⟨?_, ?_, ?_, ?_⟩
  · simp only [PyData.showable, b1]
  · simp only [PyData.leavesShort, b2]
  · simp only [PyData.weight]
    omega
  · simp only [PyData.depth, b4]
    omega
theorem rows_shown : ∀ lls : List (List Nat), (∀ l ∈ lls, (∀ n ∈ l, n < 64) ∧ l.length ≤ 64) → PyData.showableAll (lls.map encL) = true ∧ PyData.leavesShortAll 13 (lls.map encL) = true ∧ PyData.weightAll (lls.map encL) ≤ 513 * lls.length ∧ PyData.depthAll (lls.map encL) ≤ 1
  | [], _ => by simp [PyData.showableAll, PyData.leavesShortAll, PyData.weightAll, PyData.depthAll]
  | l :: lls, h => by
    obtain ⟨a1, a2⟩ := h l List.mem_cons_self
    obtain ⟨c1, c2, c3, c4⟩ := ints_shown l a1
    obtain ⟨b1, b2, b3, b4⟩ := rows_shown lls fun m hm => h m (List.mem_cons_of_mem _ hm)
    have e : encL l = .tuple (l.map fun (n : Nat) => .int (n : Int)) := rfl
    simp only [List.map_cons, PyData.showableAll, PyData.leavesShortAll, PyData.weightAll, PyData.depthAll, b1, b2, List.length_cons, e, PyData.showable, PyData.leavesShort, PyData.weight, PyData.depth, c1, c2, c4, Bool.and_self, true_and]
    omega
theorem shows_rows {lls : List (List Nat)} (h : ∀ l ∈ lls, (∀ n ∈ l, n < 64) ∧ l.length ≤ 64) (few : lls.length ≤ 64) : Shows (.tuple (lls.map encL)) := by
  obtain ⟨b1, b2, b3, b4⟩ := rows_shown lls h
  refine ⟨?_, ?_, ?_, ?_⟩
  · simp only [PyData.showable, b1]
  · simp only [PyData.leavesShort, b2]
  · simp only [PyData.weight]
    omega
  · simp only [PyData.depth]
    omega
theorem dp_row {K : PySem.W.Frag} {H : Hp} {t : Addr} {l : List Nat} (h : SqT K H t (l.map vN)) : Dp K H (.ref t) (encL l) := by
  refine .tup h ?_
  have : DpAll K H ((iN l).map V.int) ((iN l).map PyData.int) := dpAll_ints _
  rw [← vN_map] at this
  unfold iN at this
  rw [List.map_map] at this
  exact this
end Ft

set_option Elab.async false
set_option linter.all false
set_option maxRecDepth 100000
set_option maxHeartbeats 8000000
namespace Ft
open PySem PySem.Spec PyProof.Rows L2
theorem shows_bool (b : Bool) : Shows (.bool b) := by
  refine ⟨?_, ?_, ?_, ?_⟩
  · simp only [PyData.showable]
  · simp only [PyData.leavesShort]
  · simp only [PyData.weight]
    omega
  · simp only [PyData.depth]
    omega
theorem cut_part {I : List Nat} {lo hi : Option Int} : ∃ J : List Nat, cutV (I.map vN) lo hi = J.map vN ∧ ∀ x ∈ J, x ∈ I := by
  have mem : ∀ v ∈ cutV (I.map vN) lo hi, ∃ x ∈ I, vN x = v := fun v hv => by
    unfold cutV at hv
    exact List.mem_map.mp (List.mem_of_mem_drop (List.mem_of_mem_take hv))
  refine ⟨(cutV (I.map vN) lo hi).map fun v => (match v with | .int i => i.toNat | _ => 0), ?_, fun x hx => ?_⟩
  · rw [List.map_map]
    conv => lhs; rw [← List.map_id (cutV (I.map vN) lo hi)]
    refine List.map_congr_left fun v hv => ?_
    obtain ⟨x, _, rfl⟩ := mem v hv
    rfl
  · obtain ⟨v, hv, rfl⟩ := List.mem_map.mp hx
    obtain ⟨y, hy, rfl⟩ := mem v hv
    exact hy
theorem members_up (C : Chart) (S : List Nat) : Upto (membersOf C S) C.n := ⟨those_up _ _, fun _ h => (those_mem.mp h).1⟩
section
variable {P : Program} {w : World} {K : PySem.W.Frag} {mg : Str → Option Value} {base : Heap} {t1 t2 : Tok}
/-! ### law -/
def sp_law (K : PySem.W.Frag) : Sp := fun vs H Q _ => ∃ (a : Addr) (ns : List Int), vs = [.ref a] ∧ SqL K H a (ns.map V.int) ∧ ∀ H', Q (.bl true) H'
theorem fn_law {f : Addr} {fd : FuncData} (T : Txt mg) (F : L2.Fun K "law" "law" s_law f fd) (c_law_pool : Cal P w K mg base 2 "_law_pool" (sp_law_pool K)) (c_law_draw : Cal P w K mg base 2 "_law_draw" sp_law_draw) (c_law_bound_chart : Cal P w K mg base 6 "_law_bound_chart" (sp_law_bound_chart K)) (c_law_map_table : Cal P w K mg base 3 "_law_map_table" (sp_law_map_table K))
    (c_law_map_standing : Cal P w K mg base 3 "_law_map_standing" (sp_law_map_standing K)) (c_law_map_members : Cal P w K mg base 3 "_law_map_members" (sp_law_map_members K)) (v_members : Cal P w K mg base 7 "members" (sp_members K)) (c_law_map_lot : Cal P w K mg base 3 "_law_map_lot" (sp_law_map_lot K)) (c_law_map_next : Cal P w K mg base 2 "_law_map_next" (sp_law_map_next K))
    (c_law_way_cut : Cal P w K mg base 3 "_law_way_cut" (sp_law_way_cut K)) (v_cuts : Cal P w K mg base 7 "cuts" (sp_cuts K)) : FnG P w K mg base 8 f fd ["script"] (sp_law K) := by
  refine gfun F sc_law (fun vs H Q E h => ?_) (fun cdv A outer s H vs Q E hg hr h => ?_)
  · obtain ⟨a, ns, rfl, _⟩ := h
    rfl
  · obtain ⟨sa, ns, rfl, hS, q⟩ := h
    have hU := hr.units
    have hG := hg
    refine ⟨_, (pss_cons (ps_set (i := 1) sc_law.nd rfl (Or.inl rfl) (pe_c c_law_pool hr (by decide) (by rfl) (pa_cons (pv 0) pa_nil)))
      (pss_cons (ps_set (i := 2) sc_law.nd rfl (Or.inr rfl) (pe_c c_law_bound_chart hr (by decide) (by rfl) (pa_cons (pv 1) (pa_cons pe_int pa_nil))))
      (pss_cons (ps_set (i := 3) sc_law.nd rfl (Or.inl rfl) (pe_c c_law_map_table hr (by decide) (by rfl) (pa_cons (pv 2) pa_nil)))
      (pss_cons (ps_set (i := 4) sc_law.nd rfl (Or.inl rfl) (pe_c c_law_map_standing hr (by decide) (by rfl) (pa_cons (pv 1) (pa_cons (pv 2) (pa_cons pe_int pa_nil)))))
      (pss_cons (ps_set (i := 5) sc_law.nd rfl (Or.inl rfl) (pe_c c_law_map_members hr (by decide) (by rfl) (pa_cons (pv 2) (pa_cons (pv 3) (pa_cons (pv 4) pa_nil)))))
      (pss_cons (ps_if (pt_cmpR op_ne (pe_callB (show CallR _ _ (rRepr K) from cr_repr hG hU) (by rfl) T.repr (by decide +kernel) (pa_cons (pe_c v_members hr (by decide) (by rfl) (pa_cons (pv 2) (pa_cons (pv 4) pa_nil))) pa_nil)) (pe_callB (show CallR _ _ (rRepr K) from cr_repr hG hU) (by rfl) T.repr (by decide +kernel) (pa_cons (pv 5) pa_nil)) (nomark _)) (pss_one (ps_ret pe_bl)) pss_nil)
      (pss_cons (ps_set (i := 6) sc_law.nd rfl (Or.inr rfl) (pe_callTy (show CallR _ _ (rListOf K) from call_listOf) (by rfl) T.list (by decide +kernel) (pa_cons (pe_c c_law_map_lot hr (by decide) (by rfl) (pa_cons (pv 1) (pa_cons (pv 2) pa_nil))) pa_nil)))
      (ps_cut (ps_if (pt_cmpR op_eq (pe_c c_law_draw hr (by decide) (by rfl) (pa_cons (pv 1) (pa_cons pe_int pa_nil))) pe_int (nomark _)) (pss_cons (ps_set (i := 6) sc_law.nd rfl (Or.inr rfl) (pe_op op_cat (pv 6) (pe_lc (own := [("b", 12)]) rfl sc_law.nd (show PI _ _ _ (iTup K _) from pi_tup (pe_c c_law_map_next hr (by decide) (by rfl) (pa_cons (pv 2) (pa_cons (pv 5) pa_nil)))) (blkOk_by (N := ["script", "pool", "chart", "table", "standing", "lot", "traps", "out", "inner", "due", "more", "a", "b"]) (sc := L2.defScope s_law) (by decide +kernel)) (fun _ _ _ _ _ => (pg_name (i := 12) sc_law.nd rfl (Or.inl rfl))) (fun _ _ _ _ _ => pts_one (pt_cmpR (show OpR _ _ (rIn K true) from op_notIn_seq) (pv 12) (pv 6) (by rfl))) (fun _ _ _ _ _ => (pv 12)))))
        (pss_one (ps_if (pt_cmpR op_eq (pe_c c_law_draw hr (by decide) (by rfl) (pa_cons (pv 1) (pa_cons pe_int pa_nil))) pe_int (nomark _)) (pss_cons (ps_set (i := 7) sc_law.nd rfl (Or.inr rfl) (pe_c c_law_draw hr (by decide) (by rfl) (pa_cons (pv 1) (pa_cons (pe_ix (show IxR _ (rIxT K) from ix_tup) (pv 2) pe_int (fun _ _ => rfl)) pa_nil))))
          (pss_one (ps_set (i := 6) sc_law.nd rfl (Or.inr rfl) (pe_lc (own := [("b", 12)]) rfl sc_law.nd (show PI _ _ _ (iList K _) from pi_list (pv 6)) (blkOk_by (N := ["script", "pool", "chart", "table", "standing", "lot", "traps", "out", "inner", "due", "more", "a", "b"]) (sc := L2.defScope s_law) (by decide +kernel)) (fun _ _ _ _ _ => (pg_name (i := 12) sc_law.nd rfl (Or.inl rfl))) (fun _ _ _ _ _ => pts_one (pt_cmpR op_ne (pv 12) (pv 7) (nomark _))) (fun _ _ _ _ _ => (pv 12)))))) pss_nil))) pss_nil)
      (pss_cons (ps_set (i := 8) sc_law.nd rfl (Or.inr rfl) (pe_lc (own := [("a", 11)]) rfl sc_law.nd (show PI _ _ _ (iTup K _) from pi_tup (pv 5)) (blkOk_by (N := ["script", "pool", "chart", "table", "standing", "lot", "traps", "out", "inner", "due", "more", "a", "b"]) (sc := L2.defScope s_law) (by decide +kernel)) (fun _ _ _ _ _ => (pg_name (i := 11) sc_law.nd rfl (Or.inl rfl))) (fun _ _ _ _ _ => pts_one (pt_cmpR (show OpR _ _ (rIn K true) from op_notIn_seq) (pv 11) (pe_ix (show IxR _ (rIxT K) from ix_tup) (pv 2) pe_int (fun _ _ => rfl)) (by rfl))) (fun _ _ _ _ _ => (pv 11))))
      (pss_cons (ps_set (i := 9) sc_law.nd rfl (Or.inl rfl) (pe_c c_law_way_cut hr (by decide) (by rfl) (pa_cons (pv 2) (pa_cons (pe_callTy (show CallR _ _ (rTupleOf K) from call_tupleOf) (by rfl) T.tuple (by decide +kernel) (pa_cons (pv 6) pa_nil)) (pa_cons (pv 5) pa_nil)))))
      (pss_cons (ps_for PassesOwn.never rfl (show PI _ _ _ (iList K _) from pi_list (pe_lst (pa_cons (pv 6) (pa_cons (pe_lc (own := [("b", 12)]) rfl sc_law.nd (show PI _ _ _ (iList K _) from pi_list (pv 6)) (blkOk_by (N := ["script", "pool", "chart", "table", "standing", "lot", "traps", "out", "inner", "due", "more", "a", "b"]) (sc := L2.defScope s_law) (by decide +kernel)) (fun _ _ _ _ _ => (pg_name (i := 12) sc_law.nd rfl (Or.inl rfl))) (fun _ _ _ _ _ => pts_one (pt_cmpR (show OpR _ _ (rIn K true) from op_notIn_seq) (pv 12) (pv 8) (by rfl))) (fun _ _ _ _ _ => (pv 12))) (pa_cons (pe_op op_cat (pv 6) (pv 8)) (pa_cons (pe_op op_cat (pv 6) (pe_slice (show SlR _ (rSlL K) from sl_list) (pv 8) po_none (po_some pe_int))) pa_nil)))))) (pg_name (i := 10) sc_law.nd rfl (Or.inl rfl)) (pss_one (ps_if (pt_cmpR op_ne (pe_callB (show CallR _ _ (rRepr K) from cr_repr hG hU) (by rfl) T.repr (by decide +kernel) (pa_cons (pe_c v_cuts hr (by decide) (by rfl) (pa_cons (pv 2) (pa_cons (pe_callTy (show CallR _ _ (rTupleOf K) from call_tupleOf) (by rfl) T.tuple (by decide +kernel) (pa_cons (pe_callB (show CallR _ _ (rSortedSet w) from cr_sortedSet rfl) (by rfl) T.sorted (by decide +kernel) (pa_cons (pe_callTy (show CallR _ _ (rSetN K w) from cr_setN rfl) (by rfl) T.set (by decide +kernel) (pa_cons (pv 10) pa_nil)) pa_nil)) pa_nil)) (pa_cons (pv 5) pa_nil)))) pa_nil)) (pe_callB (show CallR _ _ (rRepr K) from cr_repr hG hU) (by rfl) T.repr (by decide +kernel) (pa_cons (pv 9) pa_nil)) (nomark _)) (pss_one (ps_ret pe_bl)) pss_nil)))
      (pss_one (ps_ret pe_bl))))))))))))), ?_⟩
    have s1000 : (1000 : Nat) ≤ sizeLine := by decide
    refine ⟨_, rfl, sa, ns, rfl, hS, fun p l H1 _ _ _ hP1 => ?_⟩
    refine ⟨_, rfl, p, l, 14, rfl, hP1, by decide, by decide, fun c C H2 hC2 ok n0 hP2 _ => ?_⟩
    have n60 := ok.n60
    refine ⟨_, rfl, c, C, rfl, hC2, ok, fun tb rows H3 s3 htb new hT3 => ?_⟩
    have hP3 := hP2.same s3
    refine ⟨_, rfl, _, rfl, p, l, c, C, 3, rfl, hP3, hC2.same s3, ok, n0, by decide, by decide, fun st S H4 hS4 inS l1 l3 hP4 k4 => ?_⟩
    have hC4 : IsChart K H4 c C := (hC2.same s3).keep k4 hP3.lists
    have hT4 : TabAt H4 C tb rows := ⟨hT3.len, k4 _ _ (hP2.free htb) hT3.at_.top, fun a z e => k4 _ _ (hP2.free (new z (List.mem_of_getElem? e))) (hT3.at_.each a z e)⟩
    refine ⟨_, rfl, _, rfl, _, rfl, c, tb, st, C, rows, S, rfl, hC4, ok, hT4, hS4, inS, by omega, fun lt H5 s5 hLt5 => ?_⟩
    have up := members_up C S
    have lenM := up.len
    have shM : Shows (encL (membersOf C S)) := shows_row (fun x hx => by have := up.lt x hx; omega) (by omega)
    obtain ⟨Mb, eMb⟩ : ∃ Mb, membersOf C S = Mb := ⟨_, rfl⟩
    rw [eMb] at up lenM shM hLt5
    have hC5 := hC4.same s5
    refine ⟨_, rfl, _, rfl, c, st, C, S, rfl, hC5, ok, Same.sqT s5 hS4, inS, l1, l3, fun mm H6 s6 hmm => ?_⟩
    rw [eMb] at hmm
    have hLt6 := Same.sqT s6 hLt5
    refine ⟨_, encL Mb, rfl, dp_row hmm, shM, _, rfl, _, encL Mb, rfl, dp_row hLt6, shM, ?_⟩
    refine ⟨rfl, _, rfl, ite_any (fun h => absurd h (by simp)) (fun _ => ?_)⟩
    have hC6 := hC5.same s6
    have hP6 := hP4.same (s5.trans s6)
    refine ⟨_, rfl, _, rfl, p, l, c, C, rfl, hP6, hC6, ok, fun t7 U H7 hU7 upU hP7 k7 => ⟨t7, _, rfl, .inr hU7, fun ta hta => ?_⟩⟩
    have s8 : Same H7 (upd H7 ta (.lst (U.map vN))) := same_upd hta
    have hTa8 : (upd H7 ta (.lst (U.map vN))) ta = some (.lst (U.map vN)) := upd_same
    have hP8 := hP7.same s8
    have hC8 : IsChart K (upd H7 ta (.lst (U.map vN))) c C := (hC6.keep k7 hP6.lists).same s8
    have hLt8 : SqT K (upd H7 ta (.lst (U.map vN))) lt (Mb.map vN) := Same.sqT s8 (k7.sqT hP6.lists hLt6)
    have tapl : ta ∉ [p, l] := hP7.free hta
    generalize upd H7 ta (.lst (U.map vN)) = H8 at s8 hTa8 hP8 hC8 hLt8
    refine ⟨fun σ' H' => ∃ (tz : Addr) (TR : List Nat) (v7 v11 v12 : Option V), σ' = [some (.ref sa), some (.ref p), some (.ref c), some (.ref tb), some (.ref st), some (.ref lt), some (.ref tz), v7, none, none, none, v11, v12] ∧ IsChart K H' c C ∧ SqT K H' lt (Mb.map vN) ∧ H' tz = some (.lst (TR.map vN)) ∧ (∀ x ∈ TR, x < C.n) ∧ TR.length ≤ 120, ?_, ?_⟩
    · refine ⟨_, rfl, p, l, 2, rfl, hP8, by decide, by decide, fun x H9 _ hP9 k9 => ⟨rfl, _, rfl, ite_any (fun _ => ?_) (fun _ => ?_)⟩⟩
      · have hC9 : IsChart K H9 c C := hC8.keep k9 hP8.lists
        have hLt9 := k9.sqT hP8.lists hLt8
        have hTa9 := k9 _ _ tapl hTa8
        refine ⟨_, rfl, _, rfl, _, rfl, c, lt, C, Mb, rfl, hC9, ok, hLt9, fun nx N H10 s10 hN10 upN => ?_⟩
        have hTa10 := s10 _ _ hTa9
        refine ⟨nx, rfl, ⟨_, hN10⟩, fun e he => ?_⟩
        have keep : ∀ {H' : Hp}, Kp [e] H10 H' → Same H10 H' := fun {H'} k b o e' => k b o (fun m => by rw [List.mem_singleton.mp m, he] at e'; cases e') e'
        have Nl := upN.len
        have Ul := upU.len
        refine lc_tup (K := K) (xs := N.map vN) (fun j H' => ∃ F : List Nat, Kp [e] H10 H' ∧ H' e = some (.lst (F.map vN)) ∧ F.length ≤ j ∧ ∀ x ∈ F, x < C.n)
          ⟨[], (fun b o x e' => by rw [upd_ne (ne_of_none e' he)]; exact e'), upd_same, Nat.le_refl _, fun _ h => nomatch h⟩ (fun j H' _ ⟨_, k, _⟩ => Same.sqT (keep k) hN10) ?_ ?_
        · rintro j y H11 hy ⟨F, k11, hE, lF, inF⟩
          obtain ⟨b, hb, rfl⟩ := get_map hy
          have jl : j < N.length := (List.getElem?_eq_some_iff.mp hb).1
          have hbn := upN.lt b (List.mem_of_getElem? hb)
          refine ⟨rfl, ?_⟩
          refine ⟨_, rfl, _, rfl, ta, _, rfl, .inl (.inl (.inl (keep k11 _ _ hTa10))), rfl, all_vN U, _, rfl, ite_any (fun _ => ?_) (fun _ => ⟨F, k11, hE, by omega, inF⟩)⟩
          refine ⟨_, rfl, _, hE, by rw [List.length_map]; exact small1000 (by omega), F ++ [b], ?_, by rw [upd_same, List.map_append]; rfl, by rw [List.length_append]; exact Nat.succ_le_succ lF, ?_⟩
          · intro z o nz ez
            rw [upd_ne (fun y => nz (by rw [y]; simp))]
            exact k11 z o nz ez
          · intro z hz
            rcases List.mem_append.mp hz with hz | hz
            · exact inF z hz
            · rw [List.mem_singleton.mp hz]
              exact hbn
        · rintro H11 ⟨F, k11, hE, lF, inF⟩
          rw [List.length_map] at lF
          refine ⟨ta, e, _, _, rfl, rfl, keep k11 _ _ hTa10, hE, by rw [List.length_map, List.length_map]; omega, fun z hz => ?_⟩
          have s12 : Same H11 (upd H11 z (.lst (U.map vN ++ F.map vN))) := same_upd hz
          have hZ12 : (upd H11 z (.lst (U.map vN ++ F.map vN))) z = some (.lst ((U ++ F).map vN)) := by rw [upd_same, List.map_append]
          have s912 := s10.trans ((keep k11).trans s12)
          have hP12 := hP9.same s912
          have hC12 := hC9.same s912
          have hLt12 := Same.sqT s912 hLt9
          have zpl : z ∉ [p, l] := (hP9.same (s10.trans (keep k11))).free hz
          have inZ : ∀ x ∈ U ++ F, x < C.n := fun x hx => (List.mem_append.mp hx).elim (upU.lt x) (inF x)
          have lZ : (U ++ F).length ≤ 120 := by rw [List.length_append]; omega
          generalize upd H11 z (.lst (U.map vN ++ F.map vN)) = H12 at s12 hZ12 s912 hP12 hC12 hLt12
          generalize U ++ F = Z at hZ12 inZ lZ
          refine ⟨_, rfl, p, l, 3, rfl, hP12, by decide, by decide, fun y H13 _ hP13 k13 => ⟨rfl, _, rfl, ite_any (fun _ => ?_) (fun _ => ?_)⟩⟩
          · have hC13 : IsChart K H13 c C := hC12.keep k13 hP12.lists
            have hLt13 := k13.sqT hP12.lists hLt12
            obtain ⟨r13, w13, t13, hc13⟩ := id hC13
            refine ⟨_, rfl, _, rfl, _, _, _, _, rfl, rfl, hc13.top, rfl, p, l, C.n, rfl, hP13, n0, by omega, fun ou H14 _ hP14 k14 => ?_⟩
            have hC14 : IsChart K H14 c C := hC13.keep k14 hP13.lists
            have hLt14 := k14.sqT hP13.lists hLt13
            have hZ14 := k14 _ _ zpl (k13 _ _ zpl hZ12)
            refine ⟨_, rfl, z, rfl, ⟨_, .inl (.inl hZ14)⟩, fun e2 he2 => ?_⟩
            have keep2 : ∀ {H' : Hp}, Kp [e2] H14 H' → Same H14 H' := fun {H'} k b o e' => k b o (fun m => by rw [List.mem_singleton.mp m, he2] at e'; cases e') e'
            refine lc_list (K := K) (xs := Z.map vN) (fun j H' => ∃ F : List Nat, Kp [e2] H14 H' ∧ H' e2 = some (.lst (F.map vN)) ∧ F.length ≤ j ∧ ∀ x ∈ F, x < C.n)
              ⟨[], (fun b o x e' => by rw [upd_ne (ne_of_none e' he2)]; exact e'), upd_same, Nat.le_refl _, fun _ h => nomatch h⟩ (fun j H' _ ⟨_, k, _⟩ => .inl (.inl (keep2 k _ _ hZ14))) ?_ ?_
            · rintro j y2 H15 hy2 ⟨F2, k15, hE2, lF2, inF2⟩
              obtain ⟨b, hb, rfl⟩ := get_map hy2
              have jl : j < Z.length := (List.getElem?_eq_some_iff.mp hb).1
              have hbn := inZ b (List.mem_of_getElem? hb)
              refine ⟨rfl, ?_⟩
              refine ⟨_, rfl, _, rfl, rfl, _, rfl, ite_any (fun _ => ?_) (fun _ => ⟨F2, k15, hE2, by omega, inF2⟩)⟩
              refine ⟨_, rfl, _, hE2, by rw [List.length_map]; exact small1000 (by omega), F2 ++ [b], ?_, by rw [upd_same, List.map_append]; rfl, by rw [List.length_append]; exact Nat.succ_le_succ lF2, ?_⟩
              · intro z2 o nz ez
                rw [upd_ne (fun y => nz (by rw [y]; simp))]
                exact k15 z2 o nz ez
              · intro z2 hz2
                rcases List.mem_append.mp hz2 with hz2 | hz2
                · exact inF2 z2 hz2
                · rw [List.mem_singleton.mp hz2]
                  exact hbn
            · rintro H15 ⟨F2, k15, hE2, lF2, inF2⟩
              rw [List.length_map] at lF2
              exact ⟨e2, F2, _, _, _, rfl, hC14.same (keep2 k15), Same.sqT (keep2 k15) hLt14, hE2, inF2, by omega⟩
          · exact ⟨z, Z, _, _, _, rfl, hC12.keep k13 hP12.lists, k13.sqT hP12.lists hLt12, k13 _ _ zpl hZ12, inZ, lZ⟩
      · have Ul := upU.len
        exact ⟨ta, U, _, _, _, rfl, hC8.keep k9 hP8.lists, k9.sqT hP8.lists hLt8, k9 _ _ tapl hTa8, upU.lt, by omega⟩
    rintro σ' H9 ⟨tz, TR, v7, v11, v12, rfl, ⟨r9, w9, t9, hc9⟩, hLt9, hTz9, inTR, lTR⟩
    refine ⟨_, rfl, lt, rfl, ⟨_, hLt9⟩, fun ia hia => ?_⟩
    have keep9 : ∀ {H' : Hp}, Kp [ia] H9 H' → Same H9 H' := fun {H'} k b o e' => k b o (fun m => by rw [List.mem_singleton.mp m, hia] at e'; cases e') e'
    refine lc_tup (K := K) (xs := Mb.map vN) (fun j H' => Kp [ia] H9 H' ∧ H' ia = some (.lst (((Mb.take j).filter fun b => !decide (b ∈ C.wished)).map vN)))
      ⟨(fun b o x e' => by rw [upd_ne (ne_of_none e' hia)]; exact e'), upd_same⟩ (fun j H' _ ⟨k, _⟩ => Same.sqT (keep9 k) hLt9) ?_ ?_
    · rintro j y H10 hy ⟨k10, hI⟩
      obtain ⟨b, hb, rfl⟩ := get_map hy
      have jl : j < Mb.length := (List.getElem?_eq_some_iff.mp hb).1
      have hc10 := hc9.same (keep9 k10)
      refine ⟨rfl, ?_⟩
      refine ⟨_, rfl, _, rfl, _, _, _, _, rfl, rfl, hc10.top, rfl, w9, _, rfl, .inr hc10.wis, rfl, all_vN C.wished, _, rfl, ?_⟩
      show if (!inV (vN b) (C.wished.map vN)) = true then _ else _
      rw [in_vN]
      by_cases hw : b ∈ C.wished
      · rw [decide_eq_true hw]
        refine iteF ⟨k10, ?_⟩
        rw [hI, take_more hb, List.filter_append]
        simp [hw]
      · rw [decide_eq_false hw]
        refine iteT ?_
        refine ⟨_, rfl, _, hI, ?_, ?_, ?_⟩
        · rw [List.length_map]
          have h1 := List.length_filter_le (fun b => !decide (b ∈ C.wished)) (Mb.take j)
          have h2 : (Mb.take j).length ≤ j := by rw [List.length_take]; omega
          exact small1000 (by omega)
        · intro b' o nb eb
          rw [upd_ne (fun z => nb (by rw [z]; simp))]
          exact k10 b' o nb eb
        · rw [upd_same, take_more hb, List.filter_append, List.map_append]
          simp [hw]
    rintro H10 ⟨k10, hI10⟩
    rw [List.take_of_length_le (by rw [List.length_map]; exact Nat.le_refl _)] at hI10
    obtain ⟨I, eI⟩ : ∃ I, I = Mb.filter fun b => !decide (b ∈ C.wished) := ⟨_, rfl⟩
    rw [← eI] at hI10
    have subI : ∀ x ∈ I, x ∈ Mb := fun x hx => by rw [eI] at hx; exact (List.mem_filter.mp hx).1
    have unwI : ∀ x ∈ I, x ∉ C.wished := fun x hx => by rw [eI] at hx; simpa using (List.mem_filter.mp hx).2
    have lI : I.length ≤ C.n := by
      rw [eI]
      have := List.length_filter_le (fun b => !decide (b ∈ C.wished)) Mb
      omega
    have s10 := keep9 k10
    have hc10 := hc9.same s10
    have hLt10 := Same.sqT s10 hLt9
    have hTz10 := s10 _ _ hTz9
    refine ⟨_, rfl, _, rfl, tz, _, rfl, .inl ⟨.inl (.inl hTz10), fun tt htt => ?_⟩⟩
    have s11 : Same H10 (upd H10 tt (.tup (TR.map vN))) := same_upd htt
    refine ⟨_, rfl, c, tt, lt, C, TR, Mb, rfl, ⟨r9, w9, t9, hc10.same s11⟩, ok, .inl (.inl upd_same), Same.sqT s11 hLt10, by omega, fun b0 H12 s12 hb0 => ?_⟩
    have s1012 := s11.trans s12
    have hc12 := hc10.same s1012
    have hLt12 := Same.sqT s1012 hLt10
    have hTz12 := s1012 _ _ hTz10
    have hI12 := s1012 _ _ hI10
    refine ⟨_, rfl, _, rfl, tz, rfl, ⟨_, .inl (.inl hTz12)⟩, fun x1 hx1 => ?_⟩
    have keep12 : ∀ {H' : Hp}, Kp [x1] H12 H' → Same H12 H' := fun {H'} k b o e' => k b o (fun m => by rw [List.mem_singleton.mp m, hx1] at e'; cases e') e'
    refine lc_list (K := K) (xs := TR.map vN) (fun j H' => Kp [x1] H12 H' ∧ H' x1 = some (.lst (((TR.take j).filter fun b => !decide (b ∈ I)).map vN)))
      ⟨(fun b o x e' => by rw [upd_ne (ne_of_none e' hx1)]; exact e'), upd_same⟩ (fun j H' _ ⟨k, _⟩ => .inl (.inl (keep12 k _ _ hTz12))) ?_ ?_
    · rintro j y H13 hy ⟨k13, hX⟩
      obtain ⟨b, hb, rfl⟩ := get_map hy
      have jl : j < TR.length := (List.getElem?_eq_some_iff.mp hb).1
      refine ⟨rfl, ?_⟩
      refine ⟨_, rfl, _, rfl, ia, _, rfl, .inl (.inl (.inl (keep12 k13 _ _ hI12))), rfl, all_vN I, _, rfl, ?_⟩
      show if (!inV (vN b) (I.map vN)) = true then _ else _
      rw [in_vN]
      by_cases hw : b ∈ I
      · rw [decide_eq_true hw]
        refine iteF ⟨k13, ?_⟩
        rw [hX, take_more hb, List.filter_append]
        simp [hw]
      · rw [decide_eq_false hw]
        refine iteT ?_
        refine ⟨_, rfl, _, hX, ?_, ?_, ?_⟩
        · rw [List.length_map]
          have h1 := List.length_filter_le (fun b => !decide (b ∈ I)) (TR.take j)
          have h2 : (TR.take j).length ≤ j := by rw [List.length_take]; omega
          exact small1000 (by omega)
        · intro b' o nb eb
          rw [upd_ne (fun z => nb (by rw [z]; simp))]
          exact k13 b' o nb eb
        · rw [upd_same, take_more hb, List.filter_append, List.map_append]
          simp [hw]
    rintro H13 ⟨k13, hX13⟩
    rw [List.take_of_length_le (by rw [List.length_map]; exact Nat.le_refl _)] at hX13
    have s13 := keep12 k13
    have hTz13 := s13 _ _ hTz12
    have hI13 := s13 _ _ hI12
    refine ⟨_, rfl, _, rfl, tz, ia, _, _, rfl, rfl, hTz13, hI13, by rw [List.length_map, List.length_map]; omega, fun x2 hx2 => ?_⟩
    have s14 : Same H13 (upd H13 x2 (.lst (TR.map vN ++ I.map vN))) := same_upd hx2
    have hX2 : (upd H13 x2 (.lst (TR.map vN ++ I.map vN))) x2 = some (.lst ((TR ++ I).map vN)) := by rw [upd_same, List.map_append]
    generalize upd H13 x2 (.lst (TR.map vN ++ I.map vN)) = H14 at s14 hX2
    have hTz14 := s14 _ _ hTz13
    have hI14 := s14 _ _ hI13
    have hX14 := s14 _ _ hX13
    refine ⟨_, rfl, _, rfl, _, rfl, ia, _, rfl, .inl (.inl hI14), fun sl hsl => ?_⟩
    obtain ⟨Jj, eJ, subJ⟩ := cut_part (I := I) (lo := none) (hi := some 1)
    rw [eJ]
    have lJ : Jj.length ≤ I.length := by
      have e1 := congrArg List.length eJ
      rw [List.length_map] at e1
      rw [← e1]
      unfold cutV
      rw [List.length_take, List.length_drop, List.length_map]
      omega
    have s15 : Same H14 (upd H14 sl (.lst (Jj.map vN))) := same_upd hsl
    have hSl : (upd H14 sl (.lst (Jj.map vN))) sl = some (.lst (Jj.map vN)) := upd_same
    generalize upd H14 sl (.lst (Jj.map vN)) = H15 at s15 hSl
    refine ⟨tz, sl, _, _, rfl, rfl, s15 _ _ hTz14, hSl, by rw [List.length_map, List.length_map]; omega, fun x3 hx3 => ?_⟩
    have s16 : Same H15 (upd H15 x3 (.lst (TR.map vN ++ Jj.map vN))) := same_upd hx3
    have hX3 : (upd H15 x3 (.lst (TR.map vN ++ Jj.map vN))) x3 = some (.lst ((TR ++ Jj).map vN)) := by rw [upd_same, List.map_append]
    generalize upd H15 x3 (.lst (TR.map vN ++ Jj.map vN)) = H16 at s16 hX3
    refine ⟨by show 4 ≤ sizeLine; decide, fun g hg => ?_⟩
    have s17 : Same H16 (upd H16 g (.lst [.ref tz, .ref x1, .ref x2, .ref x3])) := same_upd hg
    have hG17 : (upd H16 g (.lst [.ref tz, .ref x1, .ref x2, .ref x3])) g = some (.lst ([tz, x1, x2, x3].map V.ref)) := upd_same
    generalize upd H16 g (.lst [.ref tz, .ref x1, .ref x2, .ref x3]) = H17 at s17 hG17
    have s1417 := s15.trans (s16.trans s17)
    have s1217 := s13.trans (s14.trans s1417)
    have hc17 := hc12.same s1217
    have hLt17 := Same.sqT s1217 hLt12
    have lists : Paired (fun (a : Addr) (M : List Nat) => H17 a = some (.lst (M.map vN)) ∧ (∀ x ∈ M, x < C.n) ∧ M.length ≤ 200 ∧ ∀ x, x ∉ I → (x ∈ M ↔ x ∈ TR)) [tz, x1, x2, x3] [TR, TR.filter fun b => !decide (b ∈ I), TR ++ I, TR ++ Jj] := by
      refine .cons ⟨s1417 _ _ hTz14, inTR, by omega, fun _ _ => Iff.rfl⟩ (.cons ⟨s1417 _ _ hX14, fun x hx => inTR x (List.mem_filter.mp hx).1, ?_, fun x hx => ?_⟩ (.cons ⟨s1417 _ _ hX2, fun x hx => (List.mem_append.mp hx).elim (inTR x) (fun h => up.lt x (subI x h)), ?_, fun x hx => ?_⟩ (.cons ⟨s17 _ _ hX3, fun x hx => (List.mem_append.mp hx).elim (inTR x) (fun h => up.lt x (subI x (subJ x h))), ?_, fun x hx => ?_⟩ .nil)))
      · have := List.length_filter_le (fun b => !decide (b ∈ I)) TR
        omega
      · rw [List.mem_filter]
        simp [hx]
      · rw [List.length_append]
        omega
      · rw [List.mem_append]
        exact ⟨fun h => h.elim id fun h => absurd h hx, .inl⟩
      · rw [List.length_append]
        omega
      · rw [List.mem_append]
        exact ⟨fun h => h.elim id fun h => absurd (subJ x h) hx, .inl⟩
    refine ⟨g, rfl, ⟨_, .inl (.inl hG17)⟩, for_list (K := K) (xs := [tz, x1, x2, x3].map V.ref) (fun j σ H' => ∃ v10 : Option V, σ = [some (.ref sa), some (.ref p), some (.ref c), some (.ref tb), some (.ref st), some (.ref lt), some (.ref tz), v7, some (.ref ia), some (.bl b0), v10, v11, v12] ∧ Same H17 H') ⟨_, rfl, fun _ _ h => h⟩ (fun j σ H' _ ⟨_, _, s⟩ => .inl (.inl (s _ _ hG17))) ?_ ?_⟩
    · rintro j y σ H18 hy ⟨v10, rfl, s18⟩
      obtain ⟨ma, hma, rfl⟩ := get_map hy
      obtain ⟨M, hM, hMa, inM, lM, sameM⟩ := paired_getL lists hma
      refine ⟨_, rfl, _, rfl, ma, iN M, rfl, .inl (.inl (.inl (by rw [← vN_map]; exact s18 _ _ hMa))), by rw [iN_length]; omega, fun se n2 hse hn2 => ?_⟩
      have few : n2 < 64 := by
        have := hn2 (iN (List.range C.n)) fun k hk => by
          unfold iN at hk
          obtain ⟨b, hb, rfl⟩ := List.mem_map.mp hk
          exact iN_mem.mpr (List.mem_range.mpr (inM b hb))
        rw [iN_length, List.length_range] at this
        omega
      refine ⟨se, _, n2, rfl, upd_same, few, fun gs u ups mem _ hu => ?_⟩
      obtain ⟨wl, rfl, upw, memw⟩ := set_nat ups mem
      refine ⟨u, _, rfl, .inl ⟨.inl (.inl upd_same), fun tp htp => ?_⟩⟩
      have s19 := s18.trans (((same_upd hse).trans (same_upd hu)).trans (same_upd (o := .tup ((iN wl).map V.int)) htp))
      refine ⟨_, rfl, c, tp, lt, C, wl, Mb, rfl, ⟨r9, w9, t9, hc17.same s19⟩, ok, .inl (.inl (by rw [upd_same, vN_map])), (fun x hx => inM x ((memw x).mp hx)), upw, Same.sqT s19 hLt17, up.lt, up.up, fun b L H20 s20 lf hb => ⟨_, .bool b, rfl, .bl b, shows_bool b, ?_⟩⟩
      have eb : b = b0 := by
        rw [Bool.eq_iff_iff, hb, hb0]
        unfold Starts
        rw [lf.starts]
        refine not_congr ⟨fun h => traps_inner subI unwI (fun x hx hx2 => ?_) h, fun h => traps_inner subI unwI (fun x hx hx2 => ?_) h⟩
        · exact (memw x).mpr ((sameM x hx).mpr hx2)
        · exact (sameM x hx).mp ((memw x).mp hx2)
      rw [eb]
      refine ⟨_, rfl, _, .bool b0, rfl, .bl b0, shows_bool b0, rfl, _, rfl, ite_any (fun h => absurd h (by simp)) (fun _ => ?_)⟩
      exact ⟨_, rfl, s19.trans s20⟩
    · rintro σ H18 ⟨v10, rfl, s18⟩
      exact q _
end
end Ft

set_option Elab.async false
set_option linter.all false
set_option maxRecDepth 100000
set_option maxHeartbeats 8000000
namespace Ft
open PySem PySem.Spec PyProof.Rows L2
/-! ### all together -/
theorem def_mk {K : PySem.W.Frag} {h : Heap} {mg : Str → Option Value} {x : Str} {st : Stmt} {f : Addr} {oc : Value} {od an : Option Addr} {osl : Array (Option Value)} {kV doc pm cdv ct : Value} (X : K.In h) (G : h.Ns mainGlobals mg) (a : PySem.W.nsIn K mainGlobals x = some (some (.ref f)))
    (l : K.lookup f = some ⟨oc, od, .func (PySem.W.fnOf x x (L2.defArgs st) (L2.defBody st) (L2.defScope st) .none kV doc pm an cdv ct), osl⟩) (c : PySem.W.codeIn K cdv x = true) (k : PySem.W.keepIn K (.ref f) = true) : Def K mg x st :=
  ⟨f, _, fun_mk l c k, PySem.W.mg_of X G a⟩
theorem txt_mk {K : PySem.W.Frag} {h : Heap} {mg : Str → Option Value} (X : K.In h) (G : h.Ns mainGlobals mg) (z0 : PySem.W.nsIn K mainGlobals "isinstance" = some none) (z1 : PySem.W.nsIn K mainGlobals "len" = some none) (z2 : PySem.W.nsIn K mainGlobals "tuple" = some none) (z3 : PySem.W.nsIn K mainGlobals "int" = some none) (z4 : PySem.W.nsIn K mainGlobals "bool" = some none) (z5 : PySem.W.nsIn K mainGlobals "enumerate" = some none) (z6 : PySem.W.nsIn K mainGlobals "range" = some none) (z7 : PySem.W.nsIn K mainGlobals "set" = some none) (z8 : PySem.W.nsIn K mainGlobals "list" = some none) (z9 : PySem.W.nsIn K mainGlobals "sorted" = some none) (z10 : PySem.W.nsIn K mainGlobals "min" = some none) (z11 : PySem.W.nsIn K mainGlobals "max" = some none) (z12 : PySem.W.nsIn K mainGlobals "repr" = some none) (z13 : PySem.W.nsIn K mainGlobals "dict" = some none) (z14 : PySem.W.nsIn K mainGlobals "str" = some none) (z15 : PySem.W.nsIn K mainGlobals "any" = some none) (z16 : PySem.W.nsIn K mainGlobals "all" = some none) (z17 : PySem.W.nsIn K mainGlobals "sum" = some none) (z18 : PySem.W.nsIn K mainGlobals "zip" = some none) : Txt mg :=
  ⟨PySem.W.mg_none_of X G z0, PySem.W.mg_none_of X G z1, PySem.W.mg_none_of X G z2, PySem.W.mg_none_of X G z3, PySem.W.mg_none_of X G z4, PySem.W.mg_none_of X G z5, PySem.W.mg_none_of X G z6, PySem.W.mg_none_of X G z7, PySem.W.mg_none_of X G z8, PySem.W.mg_none_of X G z9, PySem.W.mg_none_of X G z10, PySem.W.mg_none_of X G z11, PySem.W.mg_none_of X G z12, PySem.W.mg_none_of X G z13, PySem.W.mg_none_of X G z14, PySem.W.mg_none_of X G z15, PySem.W.mg_none_of X G z16, PySem.W.mg_none_of X G z17, PySem.W.mg_none_of X G z18⟩
theorem mgI_mk {K : PySem.W.Frag} {h : Heap} {mg : Str → Option Value} {x : Str} {n : Int} {t : Tok} (X : K.In h) (G : h.Ns mainGlobals mg) (a : PySem.W.nsIn K mainGlobals x = some (some (.int n t))) : MgI mg x n := ⟨t, PySem.W.mg_of X G a⟩
theorem ok_init {P : Program} {w : World} {K : PySem.W.Frag} {mg : Str → Option Value} {base : Heap} {fI : Addr} {fd : FuncData} (F : L2.Fun K "__init__" "Refused.__init__" s_init fI fd) : FnOk P w K mg base L2.CX0 1 fI fd ["self", "what"] (spInit K) := by
  refine F.ok sc_init (fun vs H Q E h => ?_) (fun cdv A outer s H vs Q E hr h => ?_)
  · obtain ⟨a, C, v, rfl, _⟩ := h
    rfl
  · obtain ⟨a, C, v, rfl, oe, no, ha, q⟩ := h
    refine ⟨_, (pss_one (ps_ost (pv 0) (pv 1))), ?_⟩
    exact ⟨_, rfl, _, rfl, a, C, rfl, oe, no, .inl ⟨ha, fun dx n ne => q dx n ne⟩⟩
/-- what the head tells of a class of errors -/
structure ErrH (K : PySem.W.Frag) (C fI : Addr) (x : Str) : Prop where
  a : PySem.W.nsIn K mainGlobals x = some (some (.ref C))
  cl : ∃ nm q N bs bm sn sub ab col dd k0 k1 k2 k3 k5, K.lookup C = some (excClassObj nm q C N bs bm true sn sub ab col dd k0 k1 k2 k3 k5 "ValueError.__new__") ∧ PySem.HandSPX.refsVE bm = true
  sa : PySem.W.findIn K (.ref C) "__setattr__" = some (some (.builtin "object.__setattr__"))
  ga : PySem.W.findIn K (.ref C) "__getattribute__" = some (some (.builtin "BaseException.__getattribute__"))
  gg : PySem.W.findIn K (.ref C) "__getattr__" = some none
  nw : PySem.W.findIn K (.ref C) "what" = some none
  ii : PySem.W.findIn K (.ref C) "__init__" = some (some (.ref fI))
  ex : PySem.W.subIn K (.ref C) (.type "BaseException") = some true
  ty : PySem.W.typeIn K (.ref C) = some (.type "type")
  kp : PySem.W.keepIn K (.ref C) = true
  hd : PySem.W.hasDictIn K C = true
  ic : PySem.W.isClsIn K C = true
theorem errH_mk {K : PySem.W.Frag} {C fI : Addr} {x : Str} {nm q : Str} {N : Addr} {bs bm : List Value} {sn : List Str} {sub : List Value} {ab : Bool} {col : Option Bool} {dd : Option Addr} {k0 k1 k2 k3 k5 : Option Value}
    (a : PySem.W.nsIn K mainGlobals x = some (some (.ref C))) (cl : K.lookup C = some (excClassObj nm q C N bs bm true sn sub ab col dd k0 k1 k2 k3 k5 "ValueError.__new__")) (r : PySem.HandSPX.refsVE bm = true)
    (sa : PySem.W.findIn K (.ref C) "__setattr__" = some (some (.builtin "object.__setattr__"))) (ga : PySem.W.findIn K (.ref C) "__getattribute__" = some (some (.builtin "BaseException.__getattribute__"))) (gg : PySem.W.findIn K (.ref C) "__getattr__" = some none) (nw : PySem.W.findIn K (.ref C) "what" = some none)
    (ii : PySem.W.findIn K (.ref C) "__init__" = some (some (.ref fI))) (ex : PySem.W.subIn K (.ref C) (.type "BaseException") = some true) (ty : PySem.W.typeIn K (.ref C) = some (.type "type")) (kp : PySem.W.keepIn K (.ref C) = true) (hd : PySem.W.hasDictIn K C = true) (ic : PySem.W.isClsIn K C = true) : ErrH K C fI x :=
  ⟨a, ⟨nm, q, N, bs, bm, sn, sub, ab, col, dd, k0, k1, k2, k3, k5, cl, r⟩, sa, ga, gg, nw, ii, ex, ty, kp, hd, ic⟩
theorem er_mk {P : Program} {w : World} {K : PySem.W.Frag} {h : Heap} {mg : Str → Option Value} {base : Heap} {ca : Str → Addr} {x : Str} {C fI : Addr} {fd : FuncData} (X : K.In h) (G : h.Ns mainGlobals mg) (e : ErrH K C fI x) (tI : PySem.W.typeIn K (.ref fI) = some (.type "function")) (F : L2.Fun K "__init__" "Refused.__init__" s_init fI fd)
    (b : Binds K fd ["self", "what"] []) (hc : ca x = C) : Er P w K mg base ca x := by
  subst hc
  exact ⟨fI, fd, ⟨PySem.W.mg_of X G e.a, ⟨e.cl, e.sa, e.ex, e.ty, e.kp⟩, e.ii, tI, e.nw, ⟨e.ga, e.gg, e.ex, e.hd⟩⟩, ok_init F, b⟩
theorem exm_mk {K : PySem.W.Frag} {ca : Str → Addr} {x y : Str} {C D fI fJ : Addr} {b : Bool} (e : ErrH K D fJ y) (h : PySem.W.subIn K (.ref C) (.ref D) = some b) (hc : ca x = C) (hd : ca y = D) : Exm K ca x y b := by
  subst hc hd
  unfold Exm
  have h1 : (PySem.W.subIn K (.ref (ca y)) (.type "BaseException") == some true) = true := by rw [e.ex]; rfl
  have h2 : ((PySem.W.clsIn K (ca y)).isSome && PySem.W.typeIn K (.ref (ca y)) == some (.type "type")) = true := by
    have z : (PySem.W.clsIn K (ca y)).isSome = true := e.ic
    rw [z, e.ty]
    rfl
  show (if (PySem.W.subIn K (.ref (ca y)) (.type "BaseException") == some true) = true then (if ((PySem.W.clsIn K (ca y)).isSome && PySem.W.typeIn K (.ref (ca y)) == some (.type "type")) = true then PySem.W.subIn K (.ref (ca x)) (.ref (ca y)) else none) else none) = some b
  rw [if_pos h1, if_pos h2]
  exact h
def caOf (l : List (Str × Addr)) (x : Str) : Addr := (l.lookup x).getD 0
theorem all_mk {l : PySem.W.OpenLaw} {w : World} {K : PySem.W.Frag} {h : Heap} {mg : Str → Option Value} {fa f : Addr} {oc : Value} {od an : Option Addr} {osl : Array (Option Value)} {kV doc pm cdv ct : Value} {fI : Addr} {fdI : FuncData} {C_BadLot : Addr} {C_BadMap : Addr} {C_BadStanding : Addr} {C_BadWish : Addr} (X : K.In h) (G : h.Ns mainGlobals mg) (hfa : mg "law" = some (.ref fa)) (T : Txt mg)
    (D_law_pool : Def K mg "_law_pool" s_law_pool) (D_law_draw : Def K mg "_law_draw" s_law_draw) (D_law_turned : Def K mg "_law_turned" s_law_turned) (D_law_map_named : Def K mg "_law_map_named" s_law_map_named) (D_law_map_some_wished : Def K mg "_law_map_some_wished" s_law_map_some_wished) (D_law_map_drawn : Def K mg "_law_map_drawn" s_law_map_drawn) (D_law_bound_tree : Def K mg "_law_bound_tree" s_law_bound_tree) (D_law_pick : Def K mg "_law_pick" s_law_pick) (D_law_bound_spine : Def K mg "_law_bound_spine" s_law_bound_spine) (D_law_bound_chart : Def K mg "_law_bound_chart" s_law_bound_chart) (D_law_map_met : Def K mg "_law_map_met" s_law_map_met) (D_law_map_table : Def K mg "_law_map_table" s_law_map_table) (D_law_map_standing : Def K mg "_law_map_standing" s_law_map_standing) (D_law_map_piece : Def K mg "_law_map_piece" s_law_map_piece) (D_law_map_members : Def K mg "_law_map_members" s_law_map_members) (D_is_number : Def K mg "is_number" s_is_number) (D_number_within : Def K mg "number_within" s_number_within) (D_road_fits : Def K mg "road_fits" s_road_fits) (D_check_roads : Def K mg "check_roads" s_check_roads) (D_first_bad_place : Def K mg "first_bad_place" s_first_bad_place) (D_made_map : Def K mg "made_map" s_made_map) (D_place_fits : Def K mg "place_fits" s_place_fits) (D_made_standing : Def K mg "made_standing" s_made_standing) (D_unwished_of : Def K mg "unwished_of" s_unwished_of) (D_roads_from : Def K mg "roads_from" s_roads_from) (D_reached : Def K mg "reached" s_reached) (D_reached_unwished : Def K mg "reached_unwished" s_reached_unwished) (D_piece_table : Def K mg "piece_table" s_piece_table) (D_members : Def K mg "members" s_members) (D_law_map_lot : Def K mg "_law_map_lot" s_law_map_lot) (D_law_map_next : Def K mg "_law_map_next" s_law_map_next) (D_law_way_reached : Def K mg "_law_way_reached" s_law_way_reached) (D_law_way_cut : Def K mg "_law_way_cut" s_law_way_cut) (D_lot_fits : Def K mg "lot_fits" s_lot_fits) (D_check_lot : Def K mg "check_lot" s_check_lot) (D_roads_left : Def K mg "roads_left" s_roads_left) (D_missed : Def K mg "missed" s_missed) (D_cuts : Def K mg "cuts" s_cuts)
    (m_MOST_PLACES : MgI mg "MOST_PLACES" 60) (m_MOST_ROADS : MgI mg "MOST_ROADS" 240) (m_MOST_THREADS : MgI mg "MOST_THREADS" 3) (E_BadLot : ErrH K C_BadLot fI "BadLot") (E_BadMap : ErrH K C_BadMap fI "BadMap") (E_BadStanding : ErrH K C_BadStanding fI "BadStanding") (E_BadWish : ErrH K C_BadWish fI "BadWish") (tI : PySem.W.typeIn K (.ref fI) = some (.type "function")) (FI : L2.Fun K "__init__" "Refused.__init__" s_init fI fdI) (bI : Binds K fdI ["self", "what"] [])  
    (a : PySem.W.nsIn K mainGlobals "law" = some (some (.ref f))) (lk : K.lookup f = some ⟨oc, od, .func (PySem.W.fnOf "law" "law" (L2.defArgs s_law) (L2.defBody s_law) (L2.defScope s_law) .none kV doc pm an cdv ct), osl⟩) (c : PySem.W.codeIn K cdv "law" = true) (k : PySem.W.keepIn K (.ref f) = true) :
    ∃ fd : FuncData, (∀ (s : Shared) (v : Value), BindsTo s fd ⟨[v], []⟩ [("script", v)]) ∧ ∀ base : Heap, K.In base → base.Ns mainGlobals mg → FnG l.prog w K mg base 8 fa fd ["script"] (sp_law K) := by
  have e := hfa.symm.trans (PySem.W.mg_of X G a)
  cases e
  have F := fun_mk (st := s_law) lk c k
  refine ⟨PySem.W.fnOf "law" "law" (L2.defArgs s_law) (L2.defBody s_law) (L2.defScope s_law) .none kV doc pm an cdv ct, fun s v => .of_eq rfl, fun base _ _ => ?_⟩
  let ca : Str → Addr := caOf [("BadLot", C_BadLot), ("BadMap", C_BadMap), ("BadStanding", C_BadStanding), ("BadWish", C_BadWish)]
  have h_BadLot : ca "BadLot" = C_BadLot := by rfl
  have h_BadMap : ca "BadMap" = C_BadMap := by rfl
  have h_BadStanding : ca "BadStanding" = C_BadStanding := by rfl
  have h_BadWish : ca "BadWish" = C_BadWish := by rfl
  have e_BadLot : Er l.prog w K mg base ca "BadLot" := er_mk X G E_BadLot tI FI bI h_BadLot
  have e_BadMap : Er l.prog w K mg base ca "BadMap" := er_mk X G E_BadMap tI FI bI h_BadMap
  have e_BadStanding : Er l.prog w K mg base ca "BadStanding" := er_mk X G E_BadStanding tI FI bI h_BadStanding
  have e_BadWish : Er l.prog w K mg base ca "BadWish" := er_mk X G E_BadWish tI FI bI h_BadWish
  have c_law_pool := cal_law_pool (P := l.prog) (w := w) (base := base) T D_law_pool 
  have c_law_draw := cal_law_draw (P := l.prog) (w := w) (base := base) T D_law_draw 
  have c_law_turned := cal_law_turned (P := l.prog) (w := w) (base := base) T D_law_turned c_law_draw
  have c_law_map_named := cal_law_map_named (P := l.prog) (w := w) (base := base) T D_law_map_named c_law_turned
  have c_law_map_some_wished := cal_law_map_some_wished (P := l.prog) (w := w) (base := base) T D_law_map_some_wished c_law_draw
  have c_law_map_drawn := cal_law_map_drawn (P := l.prog) (w := w) (base := base) T D_law_map_drawn c_law_draw c_law_map_named c_law_map_some_wished
  have c_law_bound_tree := cal_law_bound_tree (P := l.prog) (w := w) (base := base) T D_law_bound_tree c_law_draw c_law_map_named
  have c_law_pick := cal_law_pick (P := l.prog) (w := w) (base := base) T D_law_pick c_law_draw
  have c_law_bound_spine := cal_law_bound_spine (P := l.prog) (w := w) (base := base) T D_law_bound_spine c_law_draw c_law_pick c_law_map_named
  have c_law_bound_chart := cal_law_bound_chart (P := l.prog) (w := w) (base := base) T D_law_bound_chart c_law_draw c_law_map_drawn c_law_bound_tree c_law_bound_spine
  have c_law_map_met := cal_law_map_met (P := l.prog) (w := w) (base := base) T D_law_map_met 
  have c_law_map_table := cal_law_map_table (P := l.prog) (w := w) (base := base) T D_law_map_table c_law_map_met
  have c_law_map_standing := cal_law_map_standing (P := l.prog) (w := w) (base := base) T D_law_map_standing c_law_draw
  have c_law_map_piece := cal_law_map_piece (P := l.prog) (w := w) (base := base) T D_law_map_piece 
  have c_law_map_members := cal_law_map_members (P := l.prog) (w := w) (base := base) T D_law_map_members c_law_map_piece
  have c_is_number := cal_is_number (P := l.prog) (w := w) (base := base) T D_is_number 
  have c_number_within := cal_number_within (P := l.prog) (w := w) (base := base) T D_number_within c_is_number
  have c_road_fits := cal_road_fits (P := l.prog) (w := w) (base := base) T D_road_fits c_number_within
  have c_check_roads := cal_check_roads (P := l.prog) (w := w) (base := base) T D_check_roads m_MOST_ROADS e_BadMap c_road_fits
  have c_first_bad_place := cal_first_bad_place (P := l.prog) (w := w) (base := base) T D_first_bad_place c_number_within
  have c_made_map := cal_made_map (P := l.prog) (w := w) (base := base) T D_made_map m_MOST_PLACES e_BadMap e_BadWish c_number_within c_check_roads c_first_bad_place
  have c_place_fits := cal_place_fits (P := l.prog) (w := w) (base := base) T D_place_fits c_number_within
  have c_made_standing := cal_made_standing (P := l.prog) (w := w) (base := base) T D_made_standing m_MOST_THREADS e_BadStanding c_made_map c_place_fits
  have c_unwished_of := cal_unwished_of (P := l.prog) (w := w) (base := base) T D_unwished_of 
  have c_roads_from := cal_roads_from (P := l.prog) (w := w) (base := base) T D_roads_from 
  have c_reached := cal_reached (P := l.prog) (w := w) (base := base) T D_reached c_roads_from
  have c_reached_unwished := cal_reached_unwished (P := l.prog) (w := w) (base := base) T D_reached_unwished c_reached
  have c_piece_table := cal_piece_table (P := l.prog) (w := w) (base := base) T D_piece_table c_unwished_of c_reached_unwished
  have c_members := cal_members (P := l.prog) (w := w) (base := base) T D_members c_made_standing c_piece_table
  have v_members := calv_members (P := l.prog) (w := w) (base := base) c_members
  have c_law_map_lot := cal_law_map_lot (P := l.prog) (w := w) (base := base) T D_law_map_lot c_law_draw
  have c_law_map_next := cal_law_map_next (P := l.prog) (w := w) (base := base) T D_law_map_next 
  have c_law_way_reached := cal_law_way_reached (P := l.prog) (w := w) (base := base) T D_law_way_reached 
  have c_law_way_cut := cal_law_way_cut (P := l.prog) (w := w) (base := base) T D_law_way_cut c_law_way_reached
  have c_lot_fits := cal_lot_fits (P := l.prog) (w := w) (base := base) T D_lot_fits c_first_bad_place
  have c_check_lot := cal_check_lot (P := l.prog) (w := w) (base := base) T D_check_lot e_BadLot c_lot_fits
  have c_roads_left := cal_roads_left (P := l.prog) (w := w) (base := base) T D_roads_left c_unwished_of
  have c_missed := cal_missed (P := l.prog) (w := w) (base := base) T D_missed c_made_map c_check_lot c_roads_left c_roads_from
  have c_cuts := cal_cuts (P := l.prog) (w := w) (base := base) T D_cuts c_missed
  have v_cuts := calv_cuts (P := l.prog) (w := w) (base := base) c_cuts
  exact fn_law T F c_law_pool c_law_draw c_law_bound_chart c_law_map_table c_law_map_standing c_law_map_members v_members c_law_map_lot c_law_map_next c_law_way_cut v_cuts
theorem walk {l : PySem.W.OpenLaw} {q : Program} {loose : List Str} {XP : (Str → Option Value) → Heap → Prop} {YP : World → Heap → Prop} {d : DefRec} {K : Params → PySem.W.Frag} (hn : l.most = some 63) (hdf : d.params.defaults = [])
    (hY : ∀ (w : World) (h : Heap), YP w h → (K w.params).In h)
    (F : ∀ (w : World) (mg : Str → Option Value) (fa : Addr) (h : Heap), (K w.params).In h → h.Ns mainGlobals mg → mg d.name = some (.ref fa) →
      ∃ fd : FuncData, (∀ (s : Shared) (u : Value), BindsTo s fd ⟨[u], []⟩ [("script", u)]) ∧ ∀ base : Heap, (K w.params).In base → base.Ns mainGlobals mg → FnG l.prog w (K w.params) mg base 8 fa fd ["script"] (sp_law (K w.params))) :
    PySem.W.WalkO q loose XP YP l.row.toRowW d [] (fun f vs => PySem.call f vs) :=
  gwalk (n := 63) (k := 8) (x := "script") (sp := fun w => sp_law (K w.params)) hn (by decide) hdf ⟨rfl, by decide, by decide⟩ hY F (fun _ _ a ns _ _ hS => ⟨a, ns, rfl, hS, fun _ => rfl⟩)
end Ft

open PySem PySem.W PyProof.Rows
set_option maxRecDepth 100000 in
set_option maxHeartbeats 0 in
theorem PySem.Challenge.cw_fewtraps_k87_cuts_without_members_holds : PySem.Challenge.rw_fewtraps_k87_cuts_without_members.Holds := by
  w_on; o_law; k_head; (case hw => w_witness2)
  k_fill
  refine Ft.walk (l := PySem.Challenge.rw_fewtraps_k87_cuts_without_members) rfl rfl (fun w h Y => PySem.W.kIn_of Y) ?F
  case F =>
    intro w mg fa h KX G hmg
    refine' Ft.all_mk KX G hmg (Ft.txt_mk KX G ?z0 ?z1 ?z2 ?z3 ?z4 ?z5 ?z6 ?z7 ?z8 ?z9 ?z10 ?z11 ?z12 ?z13 ?z14 ?z15 ?z16 ?z17 ?z18) (Ft.def_mk KX G ?a_law_pool ?l_law_pool ?c_law_pool ?k_law_pool) (Ft.def_mk KX G ?a_law_draw ?l_law_draw ?c_law_draw ?k_law_draw) (Ft.def_mk KX G ?a_law_turned ?l_law_turned ?c_law_turned ?k_law_turned) (Ft.def_mk KX G ?a_law_map_named ?l_law_map_named ?c_law_map_named ?k_law_map_named) (Ft.def_mk KX G ?a_law_map_some_wished ?l_law_map_some_wished ?c_law_map_some_wished ?k_law_map_some_wished) (Ft.def_mk KX G ?a_law_map_drawn ?l_law_map_drawn ?c_law_map_drawn ?k_law_map_drawn) (Ft.def_mk KX G ?a_law_bound_tree ?l_law_bound_tree ?c_law_bound_tree ?k_law_bound_tree) (Ft.def_mk KX G ?a_law_pick ?l_law_pick ?c_law_pick ?k_law_pick) (Ft.def_mk KX G ?a_law_bound_spine ?l_law_bound_spine ?c_law_bound_spine ?k_law_bound_spine) (Ft.def_mk KX G ?a_law_bound_chart ?l_law_bound_chart ?c_law_bound_chart ?k_law_bound_chart) (Ft.def_mk KX G ?a_law_map_met ?l_law_map_met ?c_law_map_met ?k_law_map_met) (Ft.def_mk KX G ?a_law_map_table ?l_law_map_table ?c_law_map_table ?k_law_map_table) (Ft.def_mk KX G ?a_law_map_standing ?l_law_map_standing ?c_law_map_standing ?k_law_map_standing) (Ft.def_mk KX G ?a_law_map_piece ?l_law_map_piece ?c_law_map_piece ?k_law_map_piece) (Ft.def_mk KX G ?a_law_map_members ?l_law_map_members ?c_law_map_members ?k_law_map_members) (Ft.def_mk KX G ?a_is_number ?l_is_number ?c_is_number ?k_is_number) (Ft.def_mk KX G ?a_number_within ?l_number_within ?c_number_within ?k_number_within) (Ft.def_mk KX G ?a_road_fits ?l_road_fits ?c_road_fits ?k_road_fits) (Ft.def_mk KX G ?a_check_roads ?l_check_roads ?c_check_roads ?k_check_roads) (Ft.def_mk KX G ?a_first_bad_place ?l_first_bad_place ?c_first_bad_place ?k_first_bad_place) (Ft.def_mk KX G ?a_made_map ?l_made_map ?c_made_map ?k_made_map) (Ft.def_mk KX G ?a_place_fits ?l_place_fits ?c_place_fits ?k_place_fits) (Ft.def_mk KX G ?a_made_standing ?l_made_standing ?c_made_standing ?k_made_standing) (Ft.def_mk KX G ?a_unwished_of ?l_unwished_of ?c_unwished_of ?k_unwished_of) (Ft.def_mk KX G ?a_roads_from ?l_roads_from ?c_roads_from ?k_roads_from) (Ft.def_mk KX G ?a_reached ?l_reached ?c_reached ?k_reached) (Ft.def_mk KX G ?a_reached_unwished ?l_reached_unwished ?c_reached_unwished ?k_reached_unwished) (Ft.def_mk KX G ?a_piece_table ?l_piece_table ?c_piece_table ?k_piece_table) (Ft.def_mk KX G ?a_members ?l_members ?c_members ?k_members) (Ft.def_mk KX G ?a_law_map_lot ?l_law_map_lot ?c_law_map_lot ?k_law_map_lot) (Ft.def_mk KX G ?a_law_map_next ?l_law_map_next ?c_law_map_next ?k_law_map_next) (Ft.def_mk KX G ?a_law_way_reached ?l_law_way_reached ?c_law_way_reached ?k_law_way_reached) (Ft.def_mk KX G ?a_law_way_cut ?l_law_way_cut ?c_law_way_cut ?k_law_way_cut) (Ft.def_mk KX G ?a_lot_fits ?l_lot_fits ?c_lot_fits ?k_lot_fits) (Ft.def_mk KX G ?a_check_lot ?l_check_lot ?c_check_lot ?k_check_lot) (Ft.def_mk KX G ?a_roads_left ?l_roads_left ?c_roads_left ?k_roads_left) (Ft.def_mk KX G ?a_missed ?l_missed ?c_missed ?k_missed) (Ft.def_mk KX G ?a_cuts ?l_cuts ?c_cuts ?k_cuts) (Ft.mgI_mk KX G ?m_MOST_PLACES) (Ft.mgI_mk KX G ?m_MOST_ROADS) (Ft.mgI_mk KX G ?m_MOST_THREADS) (Ft.errH_mk ?ea_BadLot ?ecl_BadLot ?r_BadLot ?esa_BadLot ?ega_BadLot ?egg_BadLot ?enw_BadLot ?eii_BadLot ?eex_BadLot ?ety_BadLot ?ekp_BadLot ?ehd_BadLot ?eic_BadLot) (Ft.errH_mk ?ea_BadMap ?ecl_BadMap ?r_BadMap ?esa_BadMap ?ega_BadMap ?egg_BadMap ?enw_BadMap ?eii_BadMap ?eex_BadMap ?ety_BadMap ?ekp_BadMap ?ehd_BadMap ?eic_BadMap) (Ft.errH_mk ?ea_BadStanding ?ecl_BadStanding ?r_BadStanding ?esa_BadStanding ?ega_BadStanding ?egg_BadStanding ?enw_BadStanding ?eii_BadStanding ?eex_BadStanding ?ety_BadStanding ?ekp_BadStanding ?ehd_BadStanding ?eic_BadStanding) (Ft.errH_mk ?ea_BadWish ?ecl_BadWish ?r_BadWish ?esa_BadWish ?ega_BadWish ?egg_BadWish ?enw_BadWish ?eii_BadWish ?eex_BadWish ?ety_BadWish ?ekp_BadWish ?ehd_BadWish ?eic_BadWish) ?tI (L2.fun_mk ?lI ?cI ?kI) (L2.Fun.binds (st := Ft.s_init) (L2.fun_mk ?lI ?cI ?kI) fun _ _ _ _ _ _ us hl => match us, hl with | [_, _], _ => rfl) ?a ?l ?c ?k
    (case a_law_pool => k_is); (case l_law_pool => k_is); (case c_law_pool => k_is); (case k_law_pool => k_is)
    (case a_law_draw => k_is); (case l_law_draw => k_is); (case c_law_draw => k_is); (case k_law_draw => k_is)
    (case a_law_turned => k_is); (case l_law_turned => k_is); (case c_law_turned => k_is); (case k_law_turned => k_is)
    (case a_law_map_named => k_is); (case l_law_map_named => k_is); (case c_law_map_named => k_is); (case k_law_map_named => k_is)
    (case a_law_map_some_wished => k_is); (case l_law_map_some_wished => k_is); (case c_law_map_some_wished => k_is); (case k_law_map_some_wished => k_is)
    (case a_law_map_drawn => k_is); (case l_law_map_drawn => k_is); (case c_law_map_drawn => k_is); (case k_law_map_drawn => k_is)
    (case a_law_bound_tree => k_is); (case l_law_bound_tree => k_is); (case c_law_bound_tree => k_is); (case k_law_bound_tree => k_is)
    (case a_law_pick => k_is); (case l_law_pick => k_is); (case c_law_pick => k_is); (case k_law_pick => k_is)
    (case a_law_bound_spine => k_is); (case l_law_bound_spine => k_is); (case c_law_bound_spine => k_is); (case k_law_bound_spine => k_is)
    (case a_law_bound_chart => k_is); (case l_law_bound_chart => k_is); (case c_law_bound_chart => k_is); (case k_law_bound_chart => k_is)
    (case a_law_map_met => k_is); (case l_law_map_met => k_is); (case c_law_map_met => k_is); (case k_law_map_met => k_is)
    (case a_law_map_table => k_is); (case l_law_map_table => k_is); (case c_law_map_table => k_is); (case k_law_map_table => k_is)
    (case a_law_map_standing => k_is); (case l_law_map_standing => k_is); (case c_law_map_standing => k_is); (case k_law_map_standing => k_is)
    (case a_law_map_piece => k_is); (case l_law_map_piece => k_is); (case c_law_map_piece => k_is); (case k_law_map_piece => k_is)
    (case a_law_map_members => k_is); (case l_law_map_members => k_is); (case c_law_map_members => k_is); (case k_law_map_members => k_is)
    (case a_is_number => k_is); (case l_is_number => k_is); (case c_is_number => k_is); (case k_is_number => k_is)
    (case a_number_within => k_is); (case l_number_within => k_is); (case c_number_within => k_is); (case k_number_within => k_is)
    (case a_road_fits => k_is); (case l_road_fits => k_is); (case c_road_fits => k_is); (case k_road_fits => k_is)
    (case a_check_roads => k_is); (case l_check_roads => k_is); (case c_check_roads => k_is); (case k_check_roads => k_is)
    (case a_first_bad_place => k_is); (case l_first_bad_place => k_is); (case c_first_bad_place => k_is); (case k_first_bad_place => k_is)
    (case a_made_map => k_is); (case l_made_map => k_is); (case c_made_map => k_is); (case k_made_map => k_is)
    (case a_place_fits => k_is); (case l_place_fits => k_is); (case c_place_fits => k_is); (case k_place_fits => k_is)
    (case a_made_standing => k_is); (case l_made_standing => k_is); (case c_made_standing => k_is); (case k_made_standing => k_is)
    (case a_unwished_of => k_is); (case l_unwished_of => k_is); (case c_unwished_of => k_is); (case k_unwished_of => k_is)
    (case a_roads_from => k_is); (case l_roads_from => k_is); (case c_roads_from => k_is); (case k_roads_from => k_is)
    (case a_reached => k_is); (case l_reached => k_is); (case c_reached => k_is); (case k_reached => k_is)
    (case a_reached_unwished => k_is); (case l_reached_unwished => k_is); (case c_reached_unwished => k_is); (case k_reached_unwished => k_is)
    (case a_piece_table => k_is); (case l_piece_table => k_is); (case c_piece_table => k_is); (case k_piece_table => k_is)
    (case a_members => k_is); (case l_members => k_is); (case c_members => k_is); (case k_members => k_is)
    (case a_law_map_lot => k_is); (case l_law_map_lot => k_is); (case c_law_map_lot => k_is); (case k_law_map_lot => k_is)
    (case a_law_map_next => k_is); (case l_law_map_next => k_is); (case c_law_map_next => k_is); (case k_law_map_next => k_is)
    (case a_law_way_reached => k_is); (case l_law_way_reached => k_is); (case c_law_way_reached => k_is); (case k_law_way_reached => k_is)
    (case a_law_way_cut => k_is); (case l_law_way_cut => k_is); (case c_law_way_cut => k_is); (case k_law_way_cut => k_is)
    (case a_lot_fits => k_is); (case l_lot_fits => k_is); (case c_lot_fits => k_is); (case k_lot_fits => k_is)
    (case a_check_lot => k_is); (case l_check_lot => k_is); (case c_check_lot => k_is); (case k_check_lot => k_is)
    (case a_roads_left => k_is); (case l_roads_left => k_is); (case c_roads_left => k_is); (case k_roads_left => k_is)
    (case a_missed => k_is); (case l_missed => k_is); (case c_missed => k_is); (case k_missed => k_is)
    (case a_cuts => k_is); (case l_cuts => k_is); (case c_cuts => k_is); (case k_cuts => k_is)
    (case m_MOST_PLACES => k_is)
    (case m_MOST_ROADS => k_is)
    (case m_MOST_THREADS => k_is)
    (case ea_BadLot => k_is); (case ecl_BadLot => k_is); (case esa_BadLot => k_is); (case ega_BadLot => k_is); (case egg_BadLot => k_is); (case enw_BadLot => k_is); (case eii_BadLot => k_is); (case eex_BadLot => k_is); (case ety_BadLot => k_is); (case ekp_BadLot => k_is); (case ehd_BadLot => k_is); (case eic_BadLot => k_is); (case r_BadLot => decide +kernel)
    (case ea_BadMap => k_is); (case ecl_BadMap => k_is); (case esa_BadMap => k_is); (case ega_BadMap => k_is); (case egg_BadMap => k_is); (case enw_BadMap => k_is); (case eii_BadMap => k_is); (case eex_BadMap => k_is); (case ety_BadMap => k_is); (case ekp_BadMap => k_is); (case ehd_BadMap => k_is); (case eic_BadMap => k_is); (case r_BadMap => decide +kernel)
    (case ea_BadStanding => k_is); (case ecl_BadStanding => k_is); (case esa_BadStanding => k_is); (case ega_BadStanding => k_is); (case egg_BadStanding => k_is); (case enw_BadStanding => k_is); (case eii_BadStanding => k_is); (case eex_BadStanding => k_is); (case ety_BadStanding => k_is); (case ekp_BadStanding => k_is); (case ehd_BadStanding => k_is); (case eic_BadStanding => k_is); (case r_BadStanding => decide +kernel)
    (case ea_BadWish => k_is); (case ecl_BadWish => k_is); (case esa_BadWish => k_is); (case ega_BadWish => k_is); (case egg_BadWish => k_is); (case enw_BadWish => k_is); (case eii_BadWish => k_is); (case eex_BadWish => k_is); (case ety_BadWish => k_is); (case ekp_BadWish => k_is); (case ehd_BadWish => k_is); (case eic_BadWish => k_is); (case r_BadWish => decide +kernel)
    (case tI => k_is); (case lI => k_is); (case cI => k_is); (case kI => k_is)
    (case z0 => k_is)
    (case z1 => k_is)
    (case z2 => k_is)
    (case z3 => k_is)
    (case z4 => k_is)
    (case z5 => k_is)
    (case z6 => k_is)
    (case z7 => k_is)
    (case z8 => k_is)
    (case z9 => k_is)
    (case z10 => k_is)
    (case z11 => k_is)
    (case z12 => k_is)
    (case z13 => k_is)
    (case z14 => k_is)
    (case z15 => k_is)
    (case z16 => k_is)
    (case z17 => k_is)
    (case z18 => k_is)
    (case a => k_is); (case l => k_is); (case c => k_is); (case k => k_is)
