import PyProof.Rows.All
import Wide.All
import OpenK.AllK
import Wide.FinOn
import PyProof.EqAt
import PyProof.EqKinds
import PyProof.TupleCall
import Open.SpecLaws
import KE.OsGo
import HandS.ForSpec
import HandS.ExcInit
import HandS.Comp
import HandS.Iter
import HandS.Dict
import HandS.Text
import HandS.Walk
import HandS.TryOnly
import HandS.Small
import KE.KStateDown
import HandS.Head0
import HandS.Head1
import HandS.Head2
import HandS.HeadHook1
import HandS.HeadHook2
import PySem.Challenge.RW_outputedits_s01_answers
set_option Elab.async false
set_option linter.all false
set_option maxRecDepth 100000
set_option maxHeartbeats 3900000
namespace PySem
namespace OeX
open PySem.W PySem.Calls PyProof.Rows PySem.HandSPX Builtin Builtin.ObjectAttr
/-- behind an own class over Exception -/
abbrev exT : List Value := [.type "Exception", .type "BaseException", .type "object"]
theorem exT_pass (C : Addr) (me : Value) : refuseLoop me "__setattr__" (.ref C :: exT) = pure () := by
  rw [refuseLoop_ref]
  exact F.store_Exception.passes me
theorem exT_obj (C : Addr) : (Value.ref C :: exT).contains (.type "object") = true := by
  rw [List.contains_cons, show exT.contains (.type "object") = true from (by decide +kernel), Bool.or_true]
theorem one_line (vs : List Value) (h : vs.length ≤ 4) : vs.length ≤ sizeLine := by
  rw [sizeLine_eq]
  exact Nat.le_trans h (by decide)
theorem in_but {K : Frag} {h h' : Heap} {x : Addr} (X : K.In h) (hx : K.lookup x = none) (k : ∀ b o, b ≠ x → h.get? b = some o → h'.get? b = some o) : K.In h' := by
  intro a o e
  refine k a o ?_ (X a o e)
  intro z
  rw [z, hx] at e
  cases e
theorem ldN {M : Model} {s : Shared} {name : Str} {scope : Scope} {L a : Addr} {cd : Value} {m : Str → Option Value} {x : Str} {pos : Pos} {v : Value} {Q : Value → Shared → Prop} {A : Around} {E : Value → Shared → Prop} (hn : s.heap.Ns L m) (hv : m x = some v)
    (h : Q v s) (hk : scope.kind = .function := by rfl) (hl : (envOfC name scope L a cd).kindOf x = some .local := by rfl) (hd : (x == ("__debug__" : Str)) = false := by decide) : wpAny M A (eval (.Name x pos) (envOfC name scope L a cd)) Q E s :=
  wpAny_Name (wpAny_loadName_local hk hl hn hv h) hd
section
variable {prog : Program} {w : World} {A : Around} {E : Value → Shared → Prop} {R : Result → Shared → Prop} {hp : Heap}
/-- self.n = u on an object of an own class over Exception, up to its own dict -/
theorem store_front {K : W.Frag} {n : Str} {tk : Tok} {u : Value} {me C : Addr} {o : Obj} {od : Option Obj} {k : ClassData} {g : Array GenState} {d : Drawn} {t : Nat} {os : OsState} (X : K.In hp) (J : W.InstAt hp me o C od) (hk : W.clsIn K C = some k)
    (hm : k.mro = .ref C :: exT) (ha : W.findIn K (.ref C) n = some none)
    (hq : wpAny (model prog w) A.in1 (storeInOwnDict (.ref me) (.ref C) (.str n tk) n u false) (fun y s' => match y with
      | .done f => R (.ok f) s'
      | .again c => c.quiet = true ∧ codeAny (model prog w) A c R s') (fun e s' => R (.error e) s') ⟨hp, g, d, t, os⟩) :
    codeAny (model prog w) A (.call (.builtin "object.__setattr__") ⟨[.ref me, .str n tk, u], []⟩) R ⟨hp, g, d, t, os⟩ := by
  have any : k.mro.contains (.type "object") = true := hm ▸ exT_obj C
  have some1 : k.mro.isEmpty = false := hm ▸ rfl
  have obj : W.Looks (model prog w) hp (isInstance (.ref me) (.type "object")) true := J.type.andThen (W.looks_mroIn X (by unfold W.mroIn; rw [hk, Option.bind_some, if_neg (by rw [some1]; decide), any]))
  refine codeAny_call_builtin F.store_object.slot.plain F.store_object.entry (@W.check_slot (model prog w) _ _ ⟨hp, g, d, t, os⟩ "object.__setattr__" "object" "__setattr__" (.ref me) [.str n tk, u] [] _ F.store_object.kind F.store_object.split obj (F.store_object.args (.ref me) (.str n tk) u) ?_)
  have above : W.Looks (model prog w) hp (mroOf (.ref C)) k.mro := (W.looks_clsIn X hk).andThen .now
  rw [W.osa_eq, refuse_eq]
  refine wpAny_bind (wpAny_bind (J.type.at (wpAny_bind (above.at ?_))))
  rw [hm, exT_pass C (.ref me)]
  refine wpAny_pure (wpAny_bind (J.type.at (wpAny_bind ((W.looks_findIn X ha).at (wpAny_bind ?_)))))
  have none1 : W.Looks (model prog w) hp (storeTaker? none) none := .now
  exact none1.at hq
/-- the first one: it lays the object's dict -/
theorem store1 {K : W.Frag} {name : Str} {tk : Tok} {v : Value} {x C : Addr} {fv : Array Value} {cd : ClassData} {g : Array GenState} {d : Drawn} {t : Nat} {os : OsState} (X : K.In hp) (hx : hp.get? x = some { cls := .ref C, data := .fields fv }) (hcd : W.clsIn K C = some cd)
    (hm : cd.mro = .ref C :: exT) (hh : cd.hasDict = true) (ha : W.findIn K (.ref C) name = some none)
    (hq : ∀ h2 t2 dx, (∀ b o, b ≠ x → hp.get? b = some o → h2.get? b = some o) → hp.objs.size ≤ dx → dx ≠ x → h2.get? x = some { cls := .ref C, dict := some dx, data := .fields fv } → h2.Ns1 dx (fun y => if y = name then some v else none) →
      R (.ok (.ret .none)) ⟨h2, g, d, t2, os⟩) : codeAny (model prog w) A (.call (.builtin "object.__setattr__") ⟨[.ref x, .str name tk, v], []⟩) R ⟨hp, g, d, t, os⟩ := by
  have far : x ≠ hp.objs.size := Nat.ne_of_lt (Heap.lt_size hx)
  have its := W.looks_clsIn (M := model prog w) X hcd
  refine store_front (od := none) X ⟨hx, rfl, rfl, trivial⟩ hcd hm ha ?_
  cases cd
  cases hh
  unfold storeInOwnDict
  unfold ownDictForStores
  repeat (first | with_reducible refine store_in_new ?_ ?_ | with_reducible refine wpAny_loadPart_at hx ?_ | with_reducible refine its.at ?_ | wp_step)
  · exact ⟨_, #[], _, (Heap.get?_update_ne _ _ _ _ far.symm).trans (Heap.get?_push_at rfl rfl), rfl, fun e he => absurd he (by simp), fun _ => rfl⟩
  · intro h2 t2 n2 s2
    have hx1 := Heap.get?_push_of_some { cls := .type "dict", data := .dict #[] } hx
    exact hq h2 t2 hp.objs.size (fun b o hb ho => (s2.2 b (Nat.ne_of_lt (Heap.lt_size ho))).trans ((Heap.get?_update_ne _ _ _ _ hb).trans (Heap.get?_push_of_some _ ho))) (Nat.le_refl _) far.symm ((s2.2 x far).trans (Heap.get?_update_self _ hx1 rfl)) n2
/-- a further one -/
theorem store2 {K : W.Frag} {name : Str} {tk : Tok} {v : Value} {x C dx : Addr} {fv : Array Value} {cd : ClassData} {m0 : Str → Option Value} {nl : List Str} {g : Array GenState} {d : Drawn} {t : Nat} {os : OsState} (X : K.In hp) (hx : hp.get? x = some { cls := .ref C, dict := some dx, data := .fields fv })
    (hns : hp.Ns1 dx m0) (hw : Within m0 nl) (hz : nl.length ≤ 1000) (hcd : W.clsIn K C = some cd) (hm : cd.mro = .ref C :: exT) (hh : cd.hasDict = true) (ha : W.findIn K (.ref C) name = some none)
    (hq : ∀ h2 t2, (∀ b o, b ≠ dx → hp.get? b = some o → h2.get? b = some o) → h2.Ns1 dx (fun y => if y = name then some v else m0 y) → R (.ok (.ret .none)) ⟨h2, g, d, t2, os⟩) :
    codeAny (model prog w) A (.call (.builtin "object.__setattr__") ⟨[.ref x, .str name tk, v], []⟩) R { heap := hp, gens := g, drawn := d, toks := t, os := os } := by
  obtain ⟨od, l1, l2, at1, _⟩ := hns.count hw
  have its := W.looks_clsIn (M := model prog w) X hcd
  refine store_front (od := some od) X ⟨hx, rfl, rfl, at1⟩ hcd hm ha ?_
  cases cd
  cases hh
  unfold storeInOwnDict
  unfold ownDictForStores
  repeat (first | with_reducible refine PySem.OEX.store_in_old hns hw hz ?_ | with_reducible refine wpAny_loadPart_at hx ?_ | with_reducible refine its.at ?_ | wp_step)
  exact fun h2 t2 n2 s2 => hq h2 t2 (fun b o hb ho => (s2.2 b hb).trans ho) n2
end
/-- a made error: at e, its own dict at d, whose names are m's -/
structure Made (h h' : Heap) (e C d : Addr) (m : Str → Option Value) : Prop where
  keep : ∀ b o, h.get? b = some o → h'.get? b = some o
  new : h.objs.size ≤ e
  obj : ∃ oe vs, h'.get? e = some oe ∧ oe.cls = .ref C ∧ oe.dict = some d ∧ oe.data = .fields vs ∧ vs[1]? = some .none
  dbig : h.objs.size ≤ d
  dne : d ≠ e
  ns : h'.Ns1 d m
/-- what __init__ leaves of a fresh error at x -/
structure Left (h h' : Heap) (x C dx t1 : Addr) (m : Str → Option Value) : Prop where
  keep : ∀ b o, b ≠ x → h.get? b = some o → h'.get? b = some o
  obj : h'.get? x = some { cls := .ref C, dict := some dx, data := .fields #[.ref t1, .none, .none, .none, .bool false, .none] }
  dbig : h.objs.size ≤ dx
  dne : dx ≠ x
  ns : h'.Ns1 dx m
/-- what the written part says of an own error's class -/
structure ErrC (K : Frag) (C fI : Addr) : Prop where
  cls : ∃ nm q N bs sn sub ab col dd k0 k1 k2 k3 k5, K.lookup C = some (excClassObj nm q C N bs exT true sn sub ab col dd k0 k1 k2 k3 k5 "Exception.__new__")
  sa : findIn K (.ref C) "__setattr__" = some (some (.builtin "object.__setattr__"))
  ga : findIn K (.ref C) "__getattribute__" = some (some (.builtin "BaseException.__getattribute__"))
  gg : findIn K (.ref C) "__getattr__" = some none
  iC : findIn K (.ref C) "__init__" = some (some (.ref fI))
  tC : typeIn K (.ref fI) = some (.type "function")
  kC : keepIn K (.ref C) = true
  exC : subIn K (.ref C) (.type "BaseException") = some true
  tyC : typeIn K (.ref C) = some (.type "type")
  hdC : hasDictIn K C = true
  te : exmOne K (.ref C) (.ref C) = some true
section
variable {prog : Program} {w : World} {A : Around} {E : Value → Shared → Prop} {R : Result → Shared → Prop} {s : Shared} {K : Frag} {C fI : Addr}
/-- an error is made, where its __init__ does what init says -/
theorem made_of (T : ErrC K C fI) {us : List Value} {m : Str → Option Value} (X : K.In s.heap) (hlim : s.heap.NoLimit) (hsz : us.length ≤ 4)
    (init : ∀ (s' : Shared) (A' : Around) (x t0 : Addr) (R' : Result → Shared → Prop), A'.depth = A.depth + 1 → K.In s'.heap → s'.heap.NoLimit → s'.heap.get? x = some (excO C t0) → K.lookup x = none →
      (∀ h' tk dx, Left s'.heap h' x C dx t0 m → R' (.ok (.ret .none)) { s' with heap := h', toks := tk }) → codeAny (model prog w) A' (.call (.ref fI) ⟨.ref x :: us, []⟩) R' s')
    (hq : ∀ h' tk e d, Made s.heap h' e C d m → R (.ok (.ret (.ref e))) { s with heap := h', toks := tk }) :
    codeAny (model prog w) A (.call (.ref C) ⟨us, []⟩) R s := by
  obtain ⟨nm, q, N, bs, sn, sub, ab, col, dd, k0, k1, k2, k3, k5, hC⟩ := T.cls
  obtain ⟨hp, g, dr, tk, os⟩ := s
  have k : ∀ b o, hp.get? b = some o → ((hp.push (kdv_tup us)).push (excO C hp.objs.size)).get? b = some o := fun b o e => Heap.get?_push_of_some _ (Heap.get?_push_of_some _ e)
  have hget : ((hp.push (kdv_tup us)).push (excO C hp.objs.size)).get? (hp.objs.size + 1) = some (excO C hp.objs.size) := by heap_get
  have hnx : K.lookup (hp.objs.size + 1) = none := by
    cases e : K.lookup (hp.objs.size + 1) with
    | none => rfl
    | some o =>
      have z : hp.get? (hp.objs.size + 1) = some o := X _ _ e
      exact absurd (Nat.lt_of_succ_lt (Heap.lt_size z)) (Nat.lt_irrefl _)
  refine call_own F.excBase_Exception (fun X => rfl) (X _ _ hC) (looks_findIn X T.iC) (fun self => bind_fn X self T.tC) (one_line us hsz) ?_
  refine init ⟨(hp.push (kdv_tup us)).push (excO C hp.objs.size), g, dr, tk, os⟩ _ _ _ _ rfl (X.keeps k) (hlim.keeps k) hget hnx fun h' tk' dx ⟨k', hx, dn, dne, hns⟩ => ?_
  have old : ∀ b o, hp.get? b = some o → h'.get? b = some o := fun b o e => k' b o (Nat.ne_of_lt (Nat.lt_succ_of_lt (Heap.lt_size e))) (k b o e)
  have z : hp.objs.size + 1 + 1 ≤ dx := by
    first
      | (simpa only [Heap.size_push] using dn)
      | exact dn
      | (have q := dn; rw [Heap.size_push, Heap.size_push] at q; exact q)
  exact ⟨rfl, hq h' tk' (hp.objs.size + 1) dx ⟨old, Nat.le_succ _, ⟨_, _, hx, rfl, rfl, rfl, rfl⟩, Nat.le_trans (Nat.le_trans (Nat.le_succ _) (Nat.le_succ _)) z, dne, hns⟩⟩
end
end OeX
end PySem
namespace L2
open PySem PySem.Spec PyProof.Rows
section
variable {X : Cx} {C fI : Addr}
/-- an own error whose maker does as mk says: C(e, ..) -/
def tMkErr (C : Addr) (fo : List V → List (Str × V)) (n : Nat) (ta : TA) : St → Hp → XK → Prop := fun σ H Q => ta σ H fun vs H1 => vs.length = n ∧ ∀ d, H1 d = none → Q (.ref C) (some d) (upd H1 d (.xd (fo vs)))
theorem pmk_err {a : Expr} {es : List Expr} {ta : TA} {p pos : Pos} {n : Nat} {cn : Str} {fo : List V → List (Str × V)} (T : PySem.OeX.ErrC X.K C fI) (hgC : X.mg cn = some (.ref C))
    (mk : ∀ {A : Around} {R : Result → Shared → Prop} {s : Shared} {vs : List V} {us : List Value}, Vals vs us → vs.length = n → X.K.In s.heap → s.heap.NoLimit → A.depth + 1 < recursionLimit →
      (∀ h' tk e d m, PySem.OeX.Made s.heap h' e C d m → (∀ f, RelO ((fo vs).lookup f) (m f)) → R (.ok (.ret (.ref e))) { s with heap := h', toks := tk }) → codeAny (model X.prog X.w) A (.call (.ref C) ⟨us, []⟩) R s)
    {k : Nat} (hr : Room k X.A) (ha : PA X (a :: es) ta) (hg : Gl X cn := by rfl) (hdb : (cn == ("__debug__" : Str)) = false := by decide)
    (he : starEach (a :: es) X.env = (false, eval a X.env) :: starEach es X.env := by rfl) (hpl : (backTo pos (starEach es X.env)).any (·.1) = false := by rfl) :
    PMk X (.Call (.Name cn p) (a :: es) [] pos) (tMkErr C fo n ta) := by
  intro pins s σ H Q I h
  refine wpAny_Call_Name_kw (ld_glob I hg hgC (hd := hdb) ?_)
  refine PySem.W.callWith_K (h₀ := X.base) I.ok.mod.kin T.kC (thn (ha.run pos pins s σ H _ I h) fun us s1 hh => ?_) he hpl
  obtain ⟨vs, H1, I1, r1, ln, q1⟩ := hh
  refine ⟨I1.kIn, ?_⟩
  change wpAny _ _ (call (.ref C) us) _ _ _
  have hlim := I1.nolimit
  obtain ⟨hp, g, dr, tk, os⟩ := s1
  refine wpAny_call (mk r1 ln I1.kIn hlim (by have := hr.dp; omega) fun h' tk' e d m M hrel => ?_)
  show MkP X pins σ Q (.ref e) ⟨h', g, dr, tk', os⟩
  obtain ⟨oe, fv, hoe, hc, hd, hdat, h1⟩ := M.obj
  have hns := M.ns
  obtain ⟨G', g1, g2⟩ := restrict h' fun b => decide (b ≠ e)
  have gk : ∀ b, b ≠ e → G'.get? b = h'.get? b := fun b hb => g1 b (decide_eq_true hb)
  have ge : G'.get? e = none := g2 e (by simp)
  have old : ∀ b o, hp.get? b = some o → G'.get? b = some o := fun b o q => (gk b (Nat.ne_of_lt (Nat.lt_of_lt_of_le (Heap.lt_size q) M.new))).trans (M.keep b o q)
  have ob : ObjOk X.prog X.w (upd H1 d (.xd (fo vs))) G' d (.xd (fo vs)) := ⟨_, hns.at (fun o q => (gk d M.dne).trans q), hrel⟩
  have J : Inv X pins σ (upd H1 d (.xd (fo vs))) ⟨G', g, dr, tk', os⟩ := I1.laid (t' := tk') old M.dbig ob
  refine ⟨e, oe, fv, ⟨G', g, dr, tk', os⟩, _, .ref C, some d, rfl, J, fun b o q => ?_, ge, hoe, ⟨hc, hd⟩, hdat, h1, ?_, rfl, I1.bare, raises_own T.exC T.tyC, q1 d (I1.hok.fresh M.dbig)⟩
  · by_cases hb : b = e
    · have q' : G'.get? b = some o := q
      rw [hb, ge] at q'
      cases q'
    · exact (gk b hb).symm.trans q
  · rw [upd_ne (Ne.symm M.dne)]
    exact I1.hok.fresh M.new
/-- raise C(e, ..) -/
def tRaiseE (C : Addr) (fo : List V → List (Str × V)) (n : Nat) (W : WX) (ta : TA) : TS := fun _ σ H => tMkErr C fo n ta σ H fun cls d H' => W cls d σ H'
/-- e.f, e the error that the suite holds (at a; its class cls, its dict d) -/
def tErrF (C : Addr) (f : Str) (a : Addr) (cls : Value) (d : Option Addr) (te : TE) : TE := fun σ H Q => te σ H fun x H1 => x = .ref a ∧ cls = .ref C ∧ ∃ (dd : Addr) (fs : List (Str × V)) (v : V), d = some dd ∧ H1 dd = some (.xd fs) ∧ fs.lookup f = some v ∧ Q v H1
theorem pe_errF {a : Addr} {oe : Obj} {cls : Value} {d : Option Addr} {pn : List (Addr × Obj)} {e : Expr} {te : TE} {pos : Pos} {f : Str} (T : PySem.OeX.ErrC X.K C fI) (noF : PySem.W.findIn X.K (.ref C) f = some none) (hz : Zc cls d oe) (hf : ∃ vs, oe.data = .fields vs)
    (he : PE (X.suite a ((a, oe) :: pn)) e te) (hb : attributeBase e f X.env (eval e X.env) = eval e X.env := by rfl) :
    PE (X.suite a ((a, oe) :: pn)) (.Attribute e f pos) (tErrF C f a cls d te) := by
  refine ⟨fun pins s σ H Q I h => ?_⟩
  refine attr_of hb (thn (he.run pins s σ H _ I h) fun u s1 hh => ?_)
  obtain ⟨z, H1, I1, rx, ez, ec, dd, fs, v, ed, ea, l, q⟩ := hh
  subst ez
  obtain rfl : u = Value.ref a := rx
  subst ec
  subst ed
  obtain ⟨ha, _⟩ := I1.pin (a, oe) (List.mem_append_left _ List.mem_cons_self)
  obtain ⟨vs, hd⟩ := hf
  obtain ⟨mA, hns, hr⟩ : ObjOk X.prog X.w H1 s1.heap dd (.xd fs) := I1.hok dd _ ea
  obtain ⟨od, ho, hl⟩ := lookIn_ns hns
  obtain ⟨u, hu, ru⟩ := RelO.some_of (v := v) (o := mA f) (by rw [← l]; exact hr f)
  have J : PySem.W.InstAt s1.heap a oe C (some od) := ⟨ha, hz.1, by unfold PySem.W.notCls; rw [hd] <;> rfl, by rw [hz.2]; exact ho⟩
  exact HandSPX.exc_get I1.kIn J T.ga T.gg T.exC (PySem.W.findObj_own T.hdC noF rfl (by rw [hl, hu])) (handed_of ru) ⟨v, H1, I1.tok _, ru, q⟩
end
end L2
namespace Oe
open PySem L2
def top (i : Nat) : Stmt := PySem.Challenge.pw_outputedits_s01_answers.main.body.getD i (.Pass ⟨0, 0, 0, 0⟩)
abbrev sFaultI : Stmt := inClass (top 64) 0
abbrev sNoOutI : Stmt := inClass (top 6) 0
end Oe
namespace PySem
namespace OeX
open PySem.W PySem.Calls PyProof.Rows PySem.HandSPX
section
variable {prog : Program} {w : World} {K : Frag} {C fI : Addr}
theorem init_Fault {A : Around} {R : Result → Shared → Prop} {s : Shared} (T : ErrC K C fI) {fd : FuncData} (F : L2.Fun K "__init__" "Fault.__init__" Oe.sFaultI fI fd) (no0 : findIn K (.ref C) "kind" = some none) (no1 : findIn K (.ref C) "place" = some none) {x t0 : Addr} {v0 v1 : Value} (X : K.In s.heap) (hlim : s.heap.NoLimit) (hx : s.heap.get? x = some (excO C t0)) (hnx : K.lookup x = none) (hroom : A.depth < recursionLimit)
    (hq : ∀ h' tk dx, Left s.heap h' x C dx t0 (fun y => (if y = ("place" : Str) then some v1 else (if y = ("kind" : Str) then some v0 else none))) → R (.ok (.ret .none)) { s with heap := h', toks := tk }) :
    codeAny (model prog w) A (.call (.ref fI) ⟨[.ref x, v0, v1], []⟩) R s := by
  obtain ⟨oc, od, kV, doc, pm, an, cdv, ct, osl, rfl, ho, hcd⟩ := F.ex
  obtain ⟨nm, q, N, bs, sn, sub, ab, col, dd, k0, k1, k2, k3, k5, hC⟩ := T.cls
  have hcl : clsIn K C = some { name := nm, bases := bs, mro := .ref C :: exT, ns := N, qualname := q, hasDict := true, slotNames := sn, subclasses := sub, abstract := ab, collection := col, hasDel := false } := by
    unfold clsIn
    rw [hC] <;> rfl
  refine Att.call_fn (binds := [("self", .ref x), ("kind", v0), ("place", v1)]) X hlim ho hcd hroom (BindsTo.of_eq (by first | rfl | with_unfolding_all rfl)) (by first | rfl | decide | with_unfolding_all rfl) (fun s1 IC => ?_) rfl rfl rfl
  obtain ⟨h1, tk1, rfl⟩ := IC.toInCall.same
  have k : ∀ b o, s.heap.get? b = some o → h1.get? b = some o := IC.toInCall.keep
  have hn := IC.toInCall.ns
  have hxL : s.heap.objs.size ≠ x := Nat.ne_of_gt (Heap.lt_size hx)
  have X1 : K.In h1 := X.keeps k
  have hx1 := k _ _ hx
  show wpAny _ _ (execs _ _) _ _ _
  refine wpAny_execs_cons (plainObj_wpAny_Assign_Attribute ?_)
  refine ldN (v := v0) hn (by first | rfl | with_unfolding_all rfl | kernel_rfl) (ldN (v := .ref x) hn (by first | rfl | with_unfolding_all rfl | kernel_rfl) ?_)
  refine set_plain X1 (ox := excO C t0) (od := none) ⟨hx1, rfl, rfl, trivial⟩ T.sa ?_
  refine store1 X1 hx1 hcl rfl rfl no0 (fun h2 tk2 dx k2 dn dne hx2 hn2 => ?_)
  have z : s.heap.objs.size < h1.objs.size := hn.lt
  have X2 : K.In h2 := in_but X1 hnx k2
  have hL2 := hn.at (fun o q => k2 _ o hxL q)
  have dL : s.heap.objs.size ≠ dx := Nat.ne_of_lt (Nat.lt_of_lt_of_le z dn)
  have ndx : K.lookup dx = none := by
    cases e : K.lookup dx with
    | none => rfl
    | some o => exact absurd (Nat.lt_of_lt_of_le (Heap.lt_size (X1 _ _ e)) dn) (Nat.lt_irrefl _)
  have w2 : Within (fun y => (if y = ("kind" : Str) then some v0 else none)) ["kind"] := by
    intro y hy
    dsimp only at hy
    by_cases e : y = ("kind" : Str)
    · rw [e]; exact List.mem_cons_self ..
    · rw [if_neg e] at hy; exact absurd rfl hy
  show wpAny _ _ (execs _ _) _ _ _
  refine wpAny_execs_cons (plainObj_wpAny_Assign_Attribute ?_)
  refine ldN (v := v1) hL2 (by first | rfl | with_unfolding_all rfl | kernel_rfl) (ldN (v := .ref x) hL2 (by first | rfl | with_unfolding_all rfl | kernel_rfl) ?_)
  obtain ⟨oD2, esD2, epD2, hoD2, hdD2, _⟩ := hn2.count w2
  refine set_plain X2 (ox := { cls := .ref C, dict := some dx, data := .fields #[.ref t0, .none, .none, .none, .bool false, .none] }) (od := some oD2) ⟨hx2, rfl, rfl, hoD2⟩ T.sa ?_
  refine store2 X2 hx2 hn2 w2 (by show _ ≤ 1000; decide) hcl rfl rfl no1 (fun h3 tk3 k3 hn3 => ?_)
  have hx3 := k3 x _ (Ne.symm dne) hx2
  show wpAny _ _ (execs _ _) _ _ _
  refine wpAny_execs_nil (hq h3 tk3 dx ⟨fun b o hb e => k3 b o ?_ (k2 b o hb (k b o e)), hx3, Nat.le_of_lt (Nat.lt_of_lt_of_le z dn), dne, hn3⟩)
  exact Nat.ne_of_lt (Nat.lt_of_lt_of_le (Heap.lt_size (k b o e)) dn)
def fo_Fault : List L2.V → List (Str × L2.V)
  | [y0, y1] => [("kind", y0), ("place", y1)]
  | _ => []
theorem mk_Fault {A : Around} {R : Result → Shared → Prop} {s : Shared} (T : ErrC K C fI) {fd : FuncData} (F : L2.Fun K "__init__" "Fault.__init__" Oe.sFaultI fI fd) (no0 : findIn K (.ref C) "kind" = some none) (no1 : findIn K (.ref C) "place" = some none) {vs : List L2.V} {us : List Value} (r : L2.Vals vs us) (ln : vs.length = 2) (X : K.In s.heap) (hlim : s.heap.NoLimit) (hroom : A.depth + 1 < recursionLimit)
    (hq : ∀ h' tk e d m, Made s.heap h' e C d m → (∀ f, L2.RelO ((fo_Fault vs).lookup f) (m f)) → R (.ok (.ret (.ref e))) { s with heap := h', toks := tk }) : codeAny (model prog w) A (.call (.ref C) ⟨us, []⟩) R s := by
  match vs, us, r, ln with
  | [y0, y1], [v0, v1], .cons r0 (.cons r1 .nil), _ =>
    refine made_of T X hlim (by show 2 ≤ 4; decide) (m := fun y => if y = ("place" : Str) then some v1 else if y = ("kind" : Str) then some v0 else none) (fun s' A' x t0 R' hd X' hl' hx' hn' hq' => init_Fault T F no0 no1 X' hl' hx' hn' (by rw [hd]; exact hroom) hq') (fun h' tk e d M => hq h' tk e d _ M (fun f => ?_))
    by_cases e0 : f = ("kind" : Str)
    · subst e0
      rw [if_neg (by decide +kernel), if_pos rfl]
      have ql : List.lookup ("kind" : Str) [(("kind" : Str), y0), (("place" : Str), y1)] = some y0 := by
        simp [List.lookup]
      show L2.RelO (List.lookup ("kind" : Str) [(("kind" : Str), y0), (("place" : Str), y1)]) (some v0)
      rw [ql]
      exact r0
    · by_cases e1 : f = ("place" : Str)
      · subst e1
        rw [if_pos rfl]
        have ql : List.lookup ("place" : Str) [(("kind" : Str), y0), (("place" : Str), y1)] = some y1 := by
          have q0 : (("place" : Str) == ("kind" : Str)) = false := by decide +kernel
          simp [List.lookup, q0]
        show L2.RelO (List.lookup ("place" : Str) [(("kind" : Str), y0), (("place" : Str), y1)]) (some v1)
        rw [ql]
        exact r1
      · rw [if_neg e1, if_neg e0]
        have q0 : (f == ("kind" : Str)) = false := by simpa using e0
        have q1 : (f == ("place" : Str)) = false := by simpa using e1
        have ql : List.lookup f [(("kind" : Str), y0), (("place" : Str), y1)] = none := by simp [List.lookup, q0, q1]
        show L2.RelO (List.lookup f [(("kind" : Str), y0), (("place" : Str), y1)]) none
        rw [ql]
        trivial
end
end OeX
end PySem
namespace PySem
namespace OeX
open PySem.W PySem.Calls PyProof.Rows PySem.HandSPX
section
variable {prog : Program} {w : World} {K : Frag} {C fI : Addr}
theorem init_NoOutput {A : Around} {R : Result → Shared → Prop} {s : Shared} (T : ErrC K C fI) {fd : FuncData} (F : L2.Fun K "__init__" "NoOutput.__init__" Oe.sNoOutI fI fd) (no0 : findIn K (.ref C) "piece" = some none) {x t0 : Addr} {v0 : Value} (X : K.In s.heap) (hlim : s.heap.NoLimit) (hx : s.heap.get? x = some (excO C t0)) (hnx : K.lookup x = none) (hroom : A.depth < recursionLimit)
    (hq : ∀ h' tk dx, Left s.heap h' x C dx t0 (fun y => (if y = ("piece" : Str) then some v0 else none)) → R (.ok (.ret .none)) { s with heap := h', toks := tk }) :
    codeAny (model prog w) A (.call (.ref fI) ⟨[.ref x, v0], []⟩) R s := by
  obtain ⟨oc, od, kV, doc, pm, an, cdv, ct, osl, rfl, ho, hcd⟩ := F.ex
  obtain ⟨nm, q, N, bs, sn, sub, ab, col, dd, k0, k1, k2, k3, k5, hC⟩ := T.cls
  have hcl : clsIn K C = some { name := nm, bases := bs, mro := .ref C :: exT, ns := N, qualname := q, hasDict := true, slotNames := sn, subclasses := sub, abstract := ab, collection := col, hasDel := false } := by
    unfold clsIn
    rw [hC] <;> rfl
  refine Att.call_fn (binds := [("self", .ref x), ("piece", v0)]) X hlim ho hcd hroom (BindsTo.of_eq (by first | rfl | with_unfolding_all rfl)) (by first | rfl | decide | with_unfolding_all rfl) (fun s1 IC => ?_) rfl rfl rfl
  obtain ⟨h1, tk1, rfl⟩ := IC.toInCall.same
  have k : ∀ b o, s.heap.get? b = some o → h1.get? b = some o := IC.toInCall.keep
  have hn := IC.toInCall.ns
  have hxL : s.heap.objs.size ≠ x := Nat.ne_of_gt (Heap.lt_size hx)
  have X1 : K.In h1 := X.keeps k
  have hx1 := k _ _ hx
  show wpAny _ _ (execs _ _) _ _ _
  refine wpAny_execs_cons (plainObj_wpAny_Assign_Attribute ?_)
  refine ldN (v := v0) hn (by first | rfl | with_unfolding_all rfl | kernel_rfl) (ldN (v := .ref x) hn (by first | rfl | with_unfolding_all rfl | kernel_rfl) ?_)
  refine set_plain X1 (ox := excO C t0) (od := none) ⟨hx1, rfl, rfl, trivial⟩ T.sa ?_
  refine store1 X1 hx1 hcl rfl rfl no0 (fun h2 tk2 dx k2 dn dne hx2 hn2 => ?_)
  have z : s.heap.objs.size < h1.objs.size := hn.lt
  show wpAny _ _ (execs _ _) _ _ _
  exact wpAny_execs_nil (hq h2 tk2 dx ⟨fun b o hb e => k2 b o hb (k b o e), hx2, Nat.le_of_lt (Nat.lt_of_lt_of_le z dn), dne, hn2⟩)
def fo_NoOutput : List L2.V → List (Str × L2.V)
  | [y0] => [("piece", y0)]
  | _ => []
theorem mk_NoOutput {A : Around} {R : Result → Shared → Prop} {s : Shared} (T : ErrC K C fI) {fd : FuncData} (F : L2.Fun K "__init__" "NoOutput.__init__" Oe.sNoOutI fI fd) (no0 : findIn K (.ref C) "piece" = some none) {vs : List L2.V} {us : List Value} (r : L2.Vals vs us) (ln : vs.length = 1) (X : K.In s.heap) (hlim : s.heap.NoLimit) (hroom : A.depth + 1 < recursionLimit)
    (hq : ∀ h' tk e d m, Made s.heap h' e C d m → (∀ f, L2.RelO ((fo_NoOutput vs).lookup f) (m f)) → R (.ok (.ret (.ref e))) { s with heap := h', toks := tk }) : codeAny (model prog w) A (.call (.ref C) ⟨us, []⟩) R s := by
  match vs, us, r, ln with
  | [y0], [v0], .cons r0 .nil, _ =>
    refine made_of T X hlim (by show 1 ≤ 4; decide) (m := fun y => if y = ("piece" : Str) then some v0 else none) (fun s' A' x t0 R' hd X' hl' hx' hn' hq' => init_NoOutput T F no0 X' hl' hx' hn' (by rw [hd]; exact hroom) hq') (fun h' tk e d M => hq h' tk e d _ M (fun f => ?_))
    by_cases e0 : f = ("piece" : Str)
    · subst e0
      rw [if_pos rfl]
      have ql : List.lookup ("piece" : Str) [(("piece" : Str), y0)] = some y0 := by
        simp [List.lookup]
      show L2.RelO (List.lookup ("piece" : Str) [(("piece" : Str), y0)]) (some v0)
      rw [ql]
      exact r0
    · rw [if_neg e0]
      have q0 : (f == ("piece" : Str)) = false := by simpa using e0
      have ql : List.lookup f [(("piece" : Str), y0)] = none := by simp [List.lookup, q0]
      show L2.RelO (List.lookup f [(("piece" : Str), y0)]) none
      rw [ql]
      trivial
end
end OeX
end PySem
namespace Oe
open PySem PySem.Spec PyProof.Rows L2
/-! ### calls of the program's own defs, packed -/
structure DefOk (P : Program) (w : World) (K : PySem.W.Frag) (mg : Str → Option Value) (base : Heap) (CX : CXT) (k : Nat) (x : Str) (ps : List Str) (sp : Sp) : Prop where
  ex : ∃ f fd, FnOk P w K mg base CX k f fd ps sp ∧ mg x = some (.ref f) ∧ PySem.W.keepIn K (.ref f) = true ∧ Binds K fd ps []
structure MethOk (P : Program) (w : World) (K : PySem.W.Frag) (mg : Str → Option Value) (base : Heap) (CX : CXT) (k : Nat) (C : Addr) (m : Str) (ps : List Str) (sp : Sp) : Prop where
  ex : ∃ f fd, FnOk P w K mg base CX k f fd ps sp ∧ Cls K C ∧ Meth K C m f ∧ Binds K fd ps []
theorem MethOk.mono {P : Program} {w : World} {K : PySem.W.Frag} {mg : Str → Option Value} {base : Heap} {CX : CXT} {j k : Nat} {C : Addr} {m : Str} {ps : List Str} {sp : Sp} (D : MethOk P w K mg base CX j C m ps sp) (h : j ≤ k) : MethOk P w K mg base CX k C m ps sp := by
  obtain ⟨f, fd, F, r⟩ := D.ex
  exact ⟨f, fd, F.mono h, r⟩
/-- a class whose __init__ stores n arguments: fo tells the attributes -/
def spNew (C : Addr) (n : Nat) (fo : List V → List (Str × V)) : Sp := fun vs H Q _ => ∃ (p dx : Addr) (us : List V), vs = .ref p :: us ∧ us.length = n ∧ H p = some (.ins C dx []) ∧ Q .non (upd H p (.ins C dx (fo us)))
structure MakeOk (P : Program) (w : World) (K : PySem.W.Frag) (mg : Str → Option Value) (base : Heap) (k : Nat) (C : Addr) (x : Str) (n : Nat) (fo : List V → List (Str × V)) : Prop where
  ex : ∃ f fd ps, FnOk P w K mg base CX0 k f fd ps (spNew C n fo) ∧ mg x = some (.ref C) ∧ Mk K C f ∧ Binds K fd ps []
def tDef (sp : Sp) (E : XK) (t : TA) : TE := fun σ H Q => t σ H fun vs H1 => sp vs H1 Q E
def tMet (C : Addr) (m : Str) (sp : Sp) (E : XK) (ta : TE) (t : TA) : TE := fun σ H Q => ta σ H fun x H1 => ∃ a dx fs, x = .ref a ∧ H1 a = some (.ins C dx fs) ∧ fs.lookup m = none ∧ t σ H1 fun vs H2 => sp (x :: vs) H2 Q E
def IsNew (C : Addr) (n : Nat) (fo : List V → List (Str × V)) (vs : List V) (H1 : Hp) (Q : VK) : Prop :=
  ∀ x dx, H1 x = none → H1 dx = none → dx ≠ x → spNew C n fo (.ref x :: vs) (upd (upd H1 dx (.own x)) x (.ins C dx [])) (fun v H2 => v = .non ∧ Q (.ref x) H2) E0
def tNew (C : Addr) (n : Nat) (fo : List V → List (Str × V)) (t : TA) : TE := fun σ H Q => t σ H fun vs H1 => IsNew C n fo vs H1 Q
theorem w_new {C : Addr} {n : Nat} {fo : List V → List (Str × V)} {vs : List V} {H : Hp} {Q : VK} (hn : vs.length = n) (h : ∀ x dx, H x = none → H dx = none → dx ≠ x → Q (.ref x) (upd (upd H dx (.own x)) x (.ins C dx (fo vs)))) : IsNew C n fo vs H Q := by
  intro x dx hx hd hne
  refine ⟨x, dx, vs, rfl, hn, upd_same, rfl, ?_⟩
  rw [upd_upd]
  exact h x dx hx hd hne
/-- o.m(e, ..) of an instance of one of several classes: tb tells which, and what each promises -/
def IsOwnD (tb : Addr → Sp → Prop) (m : Str) (x : V) (H : Hp) (N : Sp → Prop) : Prop := ∃ a C dx fs sp, x = .ref a ∧ H a = some (.ins C dx fs) ∧ fs.lookup m = none ∧ tb C sp ∧ N sp
def tMetD (tb : Addr → Sp → Prop) (m : Str) (E : XK) (ta : TE) (t : TA) : TE := fun σ H Q => ta σ H fun x H1 => IsOwnD tb m x H1 fun sp => t σ H1 fun vs H2 => sp (x :: vs) H2 Q E
section
variable {X : Cx} {CX : CXT} {k j : Nat} {C : Addr} {ps : List Str} {sp : Sp} {E : XK} {x m : Str} {p pos apos : Pos} {e o : Expr} {es : List Expr} {ta : TE} {t : TA}
theorem pe_def (D : DefOk X.prog X.w X.K X.mg X.base CX k x ps sp) (hr : Room k X.A) (hx : Passes CX X E) (ha : PA X (e :: es) t) (hg : Gl X x := by rfl) (hdb : (x == ("__debug__" : Str)) = false := by decide)
    (he : starEach (e :: es) X.env = (false, eval e X.env) :: starEach es X.env := by rfl) (hpl : (backTo pos (starEach es X.env)).any (·.1) = false := by rfl) : PE X (.Call (.Name x p) (e :: es) [] pos) (tDef sp E t) := by
  obtain ⟨f, fd, F, hm, hk, hb⟩ := D.ex
  refine ⟨fun pins s σ H Q I h => (pe_call F hr hg hm hk hb .nil hx ha hdb he hpl).run pins s σ H Q I ?_⟩
  show t σ H fun vs H1 => sp (vs ++ []) H1 Q E
  simp only [List.append_nil]
  exact h
theorem pe_def0 (D : DefOk X.prog X.w X.K X.mg X.base CX k x ps sp) (hr : Room k X.A) (hx : Passes CX X E) (hg : Gl X x := by rfl) (hdb : (x == ("__debug__" : Str)) = false := by decide) : PE X (.Call (.Name x p) [] [] pos) (tDef sp E tNil) := by
  obtain ⟨f, fd, F, hm, hk, hb⟩ := D.ex
  exact ⟨fun pins s σ H Q I h => (pe_call0 F hr hg hm hk hb .nil hx hdb).run pins s σ H Q I h⟩
theorem pe_met {pl : Sem Bool} (D : MethOk X.prog X.w X.K X.mg X.base CX k C m ps sp) (hr : Room k X.A) (hx : Passes CX X E) (ho : PE X o ta) (ha : PA X (e :: es) t)
    (hst : starEach (e :: es) X.env = (false, eval e X.env) :: starEach es X.env := by rfl) (hpl : (backTo pos (starEach es X.env)).any (·.1) = false := by rfl)
    (ht : eval (.Call (.Attribute o m apos) (e :: es) [] pos) X.env = (do
      let ov ← eval o X.env
      standAt apos.atName
      let (f, first) ← holding [ov] (getMethod ov m pl)
      callWith pos f first (backTo pos (starEach (e :: es) X.env)) (backToKw pos (keywordEach [] X.env))) := by rfl) : PE X (.Call (.Attribute o m apos) (e :: es) [] pos) (tMet C m sp E ta t) := by
  obtain ⟨f, fd, F, hc, hm, hb⟩ := D.ex
  refine ⟨fun pins s σ H Q I h => (pe_meth (pl := pl) ho hc hm F hr hb .nil hx ha hst hpl ht).run pins s σ H Q I ?_⟩
  show ta σ H fun x H1 => ∃ a dx fs, x = .ref a ∧ H1 a = some (.ins C dx fs) ∧ fs.lookup m = none ∧ t σ H1 fun vs H2 => sp (x :: (vs ++ [])) H2 Q E
  simp only [List.append_nil]
  exact h
theorem pe_met0 {pl : Sem Bool} (D : MethOk X.prog X.w X.K X.mg X.base CX k C m ps sp) (hr : Room k X.A) (hx : Passes CX X E) (ho : PE X o ta)
    (ev : eval (.Call (.Attribute o m apos) [] [] pos) X.env = (do
      let ov ← eval o X.env
      standAt apos.atName
      let (f, first) ← holding [ov] (getMethod ov m pl)
      callWith pos f first (backTo pos (starEach [] X.env)) (backToKw pos (keywordEach [] X.env))) := by rfl) : PE X (.Call (.Attribute o m apos) [] [] pos) (tMet C m sp E ta tNil) := by
  obtain ⟨f, fd, F, hc, hm, hb⟩ := D.ex
  exact ⟨fun pins s σ H Q I h => (pe_meth0 (pl := pl) ho hc hm F hr hb .nil hx ev).run pins s σ H Q I h⟩
theorem pe_metD {pl : Sem Bool} {tb : Addr → Sp → Prop} (D : ∀ C sp, tb C sp → MethOk X.prog X.w X.K X.mg X.base CX k C m ps sp) (hr : Room k X.A) (hx : Passes CX X E) (ho : PE X o ta) (ha : PA X (e :: es) t)
    (hst : starEach (e :: es) X.env = (false, eval e X.env) :: starEach es X.env := by rfl) (hpl : (backTo pos (starEach es X.env)).any (·.1) = false := by rfl)
    (ht : eval (.Call (.Attribute o m apos) (e :: es) [] pos) X.env = (do
      let ov ← eval o X.env
      standAt apos.atName
      let (f, first) ← holding [ov] (getMethod ov m pl)
      callWith pos f first (backTo pos (starEach (e :: es) X.env)) (backToKw pos (keywordEach [] X.env))) := by rfl) : PE X (.Call (.Attribute o m apos) (e :: es) [] pos) (tMetD tb m E ta t) := by
  refine ⟨fun pins s σ H Q I h => ?_⟩
  refine PySem.W.methodCall_KW (pl := pl) (thn (ho.run pins s σ H _ I h) fun u s1 ⟨x, H1, I1, rx, a, C, dx, fs, sp, ex, ea, l, tc, q⟩ => ?_) ht
  obtain ⟨f, fd, F, c, hm, hb⟩ := (D C sp tc).ex
  subst ex
  obtain rfl : u = Value.ref a := rx
  refine getmeth_ok I1 ea c hm l ?_
  refine PySem.W.callWith_K (first := [.ref a]) (h₀ := X.base) I1.ok.mod.kin hm.kp (thn (ha.run pos pins s1 σ H1 _ I1 q) fun us s2 ⟨vs, H2, I2, r, q2⟩ => ⟨I2.kIn, ?_⟩) hst hpl
  refine run_fn (us := .ref a :: us) (vs := .ref a :: vs) F hr hb .nil hx I2 (.cons rfl r) ?_
  simp only [List.append_nil]
  exact q2
theorem pe_new {n : Nat} {fo : List V → List (Str × V)} (D : MakeOk X.prog X.w X.K X.mg X.base k C x n fo) (hr : Room (k + 1) X.A) (ha : PA X (e :: es) t) (hg : Gl X x := by rfl) (hdb : (x == ("__debug__" : Str)) = false := by decide)
    (he : starEach (e :: es) X.env = (false, eval e X.env) :: starEach es X.env := by rfl) (hpl : (backTo pos (starEach es X.env)).any (·.1) = false := by rfl) : PE X (.Call (.Name x p) (e :: es) [] pos) (tNew C n fo t) := by
  obtain ⟨f, fd, ps, F, hm, M, hb⟩ := D.ex
  refine ⟨fun pins s σ H Q I h => (pe_make M F hr hg hm hb .nil pass0 ha hdb he hpl).run pins s σ H Q I ?_⟩
  show t σ H fun vs H1 => ∀ x dx, H1 x = none → H1 dx = none → dx ≠ x → spNew C n fo (.ref x :: (vs ++ [])) (upd (upd H1 dx (.own x)) x (.ins C dx [])) (fun v H2 => v = .non ∧ Q (.ref x) H2) E0
  simp only [List.append_nil]
  exact h
end

/-! ### raise of an own error -/
structure ErrOk (P : Program) (w : World) (K : PySem.W.Frag) (mg : Str → Option Value) (C : Addr) (cn : Str) (n : Nat) (fo : List V → List (Str × V)) : Prop where
  ex : ∃ fI, PySem.OeX.ErrC K C fI ∧ mg cn = some (.ref C) ∧ ∀ {A : Around} {R : Result → Shared → Prop} {s : Shared} {vs : List V} {us : List Value}, Vals vs us → vs.length = n → K.In s.heap → s.heap.NoLimit → A.depth + 1 < recursionLimit →
      (∀ h' tk e d m, PySem.OeX.Made s.heap h' e C d m → (∀ f, RelO ((fo vs).lookup f) (m f)) → R (.ok (.ret (.ref e))) { s with heap := h', toks := tk }) → codeAny (model P w) A (.call (.ref C) ⟨us, []⟩) R s
def IsErr (C : Addr) (n : Nat) (fo : List V → List (Str × V)) (vs : List V) (H : Hp) (E : XK) : Prop := vs.length = n ∧ ∀ d, H d = none → E (.ref C) (some d) (upd H d (.xd (fo vs)))
def tErr (C : Addr) (n : Nat) (fo : List V → List (Str × V)) (E : XK) (t : TA) : TS := fun _ σ H => t σ H fun vs H1 => IsErr C n fo vs H1 E
theorem ps_err {X : Cx} {C : Addr} {cn : Str} {n : Nat} {fo : List V → List (Str × V)} {E : XK} {a : Expr} {es : List Expr} {t : TA} {p pos pos2 : Pos} {k : Nat} (D : ErrOk X.prog X.w X.K X.mg C cn n fo) (hc : X.calm = true) (hr : Room k X.A) (tk : Takes X (fun cls d _ H => E cls d H)) (ha : PA X (a :: es) t)
    (hg : Gl X cn := by rfl) (hdb : (cn == ("__debug__" : Str)) = false := by decide) (he : starEach (a :: es) X.env = (false, eval a X.env) :: starEach es X.env := by rfl) (hpl : (backTo pos (starEach es X.env)).any (·.1) = false := by rfl) :
    PS X (.Raise (some (.Call (.Name cn p) (a :: es) [] pos)) none pos2) (tErr C n fo E t) := by
  obtain ⟨fI, T, hm, mk⟩ := D.ex
  exact ps_raise hc tk (pmk_err T hm mk hr ha hg hdb he hpl)
theorem pe_globI {X : Cx} {x : Str} {i : Int} {pos : Pos} (hm : ∃ t, X.mg x = some (.int i t)) (hg : Gl X x := by rfl) (hd : (x == ("__debug__" : Str)) = false := by decide) : PE X (.Name x pos) (tC (.int i)) := by
  obtain ⟨t, h⟩ := hm
  exact pe_glob hg h ⟨t, rfl⟩ hd
theorem pe_globR {X : Cx} {x : Str} {a : Addr} {pos : Pos} (hm : X.mg x = some (.ref a)) (hg : Gl X x := by rfl) (hd : (x == ("__debug__" : Str)) = false := by decide) : PE X (.Name x pos) (tC (.ref a)) := pe_glob hg hm rfl hd
/-! ### names for readings of the layer -/
abbrev rAddI : R2 := rI0 fun i j => .int (i + j)
abbrev rMulI : R2 := rI CMul fun i j => .int (i * j)
abbrev rSubI : R2 := rI0 fun i j => .int (i - j)
abbrev rLtI : R2 := rI0 fun i j => .bl (decide (i < j))
abbrev rLeI : R2 := rI0 fun i j => .bl (decide (i ≤ j))
abbrev rGtI : R2 := rI0 fun i j => .bl (decide (j < i))
abbrev rGeI : R2 := rI0 fun i j => .bl (decide (j ≤ i))
def rIsNo : R2 := fun x y H Q => y = .non ∧ Q (.bl (decide (x = .non))) H
def rNotNo : R2 := fun x y H Q => y = .non ∧ Q (.bl (!decide (x = .non))) H
theorem op_isNo {X : Cx} : OpR X (compareOp .Is) rIsNo := op_isN
theorem op_notNo {X : Cx} : OpR X (compareOp .IsNot) rNotNo := op_notN
def rLenQ (K : PySem.W.Frag) : List V → Hp → VK → Prop := fun xs H Q => ∃ p ys, xs = [.ref p] ∧ (SqL K H p ys ∨ SqT K H p ys) ∧ Q (.int ys.length) H
theorem c_len {X : Cx} : CallR X (.builtin "len") (rLenQ X.K) := call_len_seq
def rOrd : List V → Hp → VK → Prop := fun xs H Q => ∃ x, xs = [.str x] ∧ x.length = 1 ∧ Q (.int (x.cps.getD 0 0 : Nat)) H
theorem c_ord {X : Cx} : CallR X (.builtin "ord") rOrd := call_ord
def rListQ (K : PySem.W.Frag) : List V → Hp → VK → Prop := fun xs H Q => ∃ p ys, xs = [.ref p] ∧ (SqL K H p ys ∨ SqT K H p ys) ∧ ∀ l, H l = none → Q (.ref l) (upd H l (.lst ys))
theorem c_list {X : Cx} : CallR X (.type "list") (rListQ X.K) := call_list_of
/-- a test that is a list's truth -/
def tTru (K : PySem.W.Frag) (ta : TE) : TT := fun σ H Q => ta σ H fun x H1 => ∃ b, TruV K x H1 b ∧ Q b H1
theorem pt_tru {X : Cx} {a : Expr} {ta : TE} (ha : PE X a ta) (he : ∀ whole, isTrue a X.env whole = (do let v ← whole; standAt a.pos; holding [v] (truthy v)) := by intro _; rfl) : PT X a (tTru X.K ta) := pt_truth ha he
/-! ### readings, step by step: each from its head -/
def IsFld (K : PySem.W.Frag) (f : Str) (x : V) (H : Hp) (Q : VK) : Prop := ∃ a C dx fs v, x = .ref a ∧ H a = some (.ins C dx fs) ∧ Cls K C ∧ NoAttr K C f ∧ fs.lookup f = some v ∧ Q v H
def IsPut (K : PySem.W.Frag) (f : Str) (y x : V) (H : Hp) (N : Hp → Prop) : Prop := ∃ a C dx fs, x = .ref a ∧ H a = some (.ins C dx fs) ∧ Cls K C ∧ NoAttr K C f ∧ fs.length < 1000 ∧ N (upd H a (.ins C dx (putF f y fs)))
def IsBl (x : V) (H : Hp) (QB : Bool → Hp → Prop) : Prop := ∃ k, x = .bl k ∧ QB k H
def IsTru (K : PySem.W.Frag) (x : V) (H : Hp) (QB : Bool → Hp → Prop) : Prop := ∃ k, TruV K x H k ∧ QB k H
def IsOwn (C : Addr) (m : Str) (x : V) (H : Hp) (N : Prop) : Prop := ∃ a dx fs, x = .ref a ∧ H a = some (.ins C dx fs) ∧ fs.lookup m = none ∧ N
def IsTy (K : PySem.W.Frag) (T : String) (x : V) (H : Hp) (N : Prop) : Prop := tyV K T x H ∧ N
def IsObj (n : Nat) (H : Hp) (N : Addr → Prop) : Prop := n ≤ sizeLine ∧ ∀ p, H p = none → N p
section
variable {K : PySem.W.Frag} {σ : L2.St} {H : Hp} {Q : VK} {QB : Bool → Hp → Prop} {QA : List V → Hp → Prop} {ta tb tc te : TE} {t u : TS} {c d : TT} {ts : TA} {D : Ends} {i j : Int} {n : Nat} {v x y : V} {b : Bool}
theorem w_seq (h : t { D with nx := u D } σ H) : tSeq t u D σ H := h
theorem w_next (h : D.nx σ H) : tNext D σ H := h
theorem w_asg {g : TG} (h : te σ H fun x H1 => g x σ H1 D.nx) : tAsg te g D σ H := h
theorem w_name {QS : L2.St → Hp → Prop} (h : QS (σ.set n (some v)) H) : gName n v σ H QS := h
theorem w_ret (h : te σ H D.rt) : tRet te D σ H := h
theorem w_retN (h : D.rt .non H) : tRetN D σ H := h
theorem w_drop (h : te σ H fun _ H1 => D.nx σ H1) : tDrop te D σ H := h
theorem w_break (h : D.bk σ H) : tBreak D σ H := h
theorem w_cont (h : D.ct σ H) : tCont D σ H := h
theorem w_ifS (h : c σ H fun b H1 => if b = true then t D σ H1 else u D σ H1) : tIfS c t u D σ H := h
theorem w_ifT {A B : Prop} (h : A) : if true = true then A else B := by rw [if_pos rfl]; exact h
theorem w_ifF {A B : Prop} (h : B) : if false = true then A else B := by rw [if_neg Bool.false_ne_true]; exact h
theorem w_if2 {A B : Prop} (h1 : b = true → A) (h2 : b = false → B) : if b = true then A else B := by
  cases b with
  | true => exact w_ifT (h1 rfl)
  | false => exact w_ifF (h2 rfl)
theorem w_var (h : σ[n]? = some (some v)) (q : Q v H) : tVar n σ H Q := ⟨v, h, q⟩
theorem w_c (q : Q v H) : tC v σ H Q := q
theorem w_op {r : R2} (h : ta σ H fun x H1 => tb σ H1 fun y H2 => r x y H2 Q) : tOp r ta tb σ H Q := h
theorem w_un {r : V → Hp → VK → Prop} (h : ta σ H fun x H1 => r x H1 Q) : tUn r ta σ H Q := h
theorem w_I0 {g : Int → Int → V} (q : Q (g i j) H) : rI0 g (.int i) (.int j) H Q := ⟨i, j, rfl, rfl, q⟩
theorem w_mul (hc : -(2 ^ 64) < i ∧ i < 2 ^ 64) (q : Q (.int (i * j)) H) : rMulI (.int i) (.int j) H Q := ⟨i, j, rfl, rfl, Or.inl hc, q⟩
theorem w_U {g : Int → V} (q : Q (g i) H) : rU g (.int i) H Q := ⟨i, rfl, q⟩
theorem w_eq (hs : scal x y = true) (q : Q (.bl (decide (x = y))) H) : rEq x y H Q := ⟨hs, q⟩
theorem w_ne (hs : scal x y = true) (q : Q (.bl (!decide (x = y))) H) : rNe x y H Q := ⟨hs, q⟩
theorem w_isNo (q : Q (.bl (decide (x = .non))) H) : rIsNo x .non H Q := ⟨rfl, q⟩
theorem w_notNo (q : Q (.bl (!decide (x = .non))) H) : rNotNo x .non H Q := ⟨rfl, q⟩
theorem w_test (h : te σ H fun x H' => IsBl x H' QB) : tTest te σ H QB := h
theorem w_B (h : te σ H fun x H' => IsBl x H' QB) : tB te σ H QB := h
theorem w_bl (q : QB b H) : IsBl (.bl b) H QB := ⟨b, rfl, q⟩
theorem w_and (h : c σ H fun b H1 => if b = true then d σ H1 QB else QB false H1) : tAnd c d σ H QB := h
theorem w_or (h : c σ H fun b H1 => if b = true then QB true H1 else d σ H1 QB) : tOr c d σ H QB := h
theorem w_not (h : c σ H fun b H1 => QB (!b) H1) : tNot c σ H QB := h
theorem w_andV (h : ta σ H fun x H1 => IsBl x H1 fun c H1 => if c = true then tb σ H1 Q else Q (.bl false) H1) : tAndV ta tb σ H Q := h
theorem w_orV (h : ta σ H fun x H1 => IsBl x H1 fun c H1 => if c = true then Q (.bl true) H1 else tb σ H1 Q) : tOrV ta tb σ H Q := h
theorem w_notV (h : ta σ H fun x H1 => IsBl x H1 fun c H1 => Q (.bl (!c)) H1) : tNotV ta σ H Q := h
theorem w_ifE (h : c σ H fun b H1 => if b = true then ta σ H1 Q else tb σ H1 Q) : tIf c ta tb σ H Q := h
theorem w_chain {r r' : R2} (h : ta σ H fun x H1 => tb σ H1 fun y H2 => r x y H2 fun z H3 => IsBl z H3 fun k H3 => if k = true then tc σ H3 fun w H4 => r' y w H4 Q else Q (.bl false) H3) : tChain r r' ta tb tc σ H Q := h
theorem w_cb {r : List V → Hp → VK → Prop} (h : ts σ H fun vs H1 => r vs H1 Q) : tCB r ts σ H Q := h
theorem w_nil (q : QA [] H) : tNil σ H QA := q
theorem w_cons (h : ta σ H fun x H1 => ts σ H1 fun xs H2 => QA (x :: xs) H2) : tCons ta ts σ H QA := h
theorem w_len {p : Addr} {ys : List V} (h : SqL K H p ys) (q : Q (.int ys.length) H) : rLenQ K [.ref p] H Q := ⟨p, ys, rfl, Or.inl h, q⟩
theorem w_lenT {p : Addr} {ys : List V} (h : SqT K H p ys) (q : Q (.int ys.length) H) : rLenQ K [.ref p] H Q := ⟨p, ys, rfl, Or.inr h, q⟩
theorem w_ord {z : Str} (h : z.length = 1) (q : Q (.int (z.cps.getD 0 0 : Nat)) H) : rOrd [.str z] H Q := ⟨z, rfl, h, q⟩
theorem w_list {p : Addr} {ys : List V} (h : SqL K H p ys ∨ SqT K H p ys) (q : ∀ l, H l = none → Q (.ref l) (upd H l (.lst ys))) : rListQ K [.ref p] H Q := ⟨p, ys, rfl, h, q⟩
theorem w_ixL {p : Addr} {xs : List V} {i : Int} (h : SqL K H p xs) (ha : atI xs i = some v) (q : Q v H) : rIxL K (.ref p) (.int i) H Q := ⟨p, xs, i, v, rfl, rfl, h, ha, q⟩
theorem w_ixT {p : Addr} {xs : List V} {i : Int} (h : SqT K H p xs) (ha : atI xs i = some v) (q : Q v H) : rIxT K (.ref p) (.int i) H Q := ⟨p, xs, i, v, rfl, rfl, h, ha, q⟩
theorem w_lst (h : ts σ H fun xs H1 => IsObj xs.length H1 fun p => Q (.ref p) (upd H1 p (.lst xs))) : tLst ts σ H Q := h
theorem w_tup (h : ts σ H fun xs H1 => IsObj xs.length H1 fun p => Q (.ref p) (upd H1 p (.tup xs))) : tTup ts σ H Q := h
theorem w_tru (h : ta σ H fun x H' => IsTru K x H' QB) : tTru K ta σ H QB := h
theorem w_truL {p : Addr} {xs : List V} (h : SqL K H p xs) (q : QB (!xs.isEmpty) H) : IsTru K (.ref p) H QB := ⟨_, Or.inl ⟨xs, h, rfl⟩, q⟩
theorem w_fld {f : Str} (h : ta σ H fun x H1 => IsFld K f x H1 Q) : tFld K ta f σ H Q := h
theorem w_get {a C dx : Addr} {fs : List (Str × V)} {f : Str} (h : H a = some (.ins C dx fs)) (hc : Cls K C) (hn : NoAttr K C f) (hl : fs.lookup f = some v) (q : Q v H) : IsFld K f (.ref a) H Q := ⟨a, C, dx, fs, v, rfl, h, hc, hn, hl, q⟩
theorem w_sfld {f : Str} (h : tb σ H fun y H1 => ta σ H1 fun x H2 => IsPut K f y x H2 fun H3 => D.nx σ H3) : sFld K ta tb f D σ H := h
theorem w_put {a C dx : Addr} {fs fs' : List (Str × V)} {f : Str} {N : Hp → Prop} (h : H a = some (.ins C dx fs)) (hc : Cls K C) (hn : NoAttr K C f) (hl : fs.length < 1000) (hp : putF f y fs = fs') (q : N (upd H a (.ins C dx fs'))) : IsPut K f y (.ref a) H N :=
  ⟨a, C, dx, fs, rfl, h, hc, hn, hl, by rw [hp]; exact q⟩
theorem w_obj {N : Addr → Prop} (h : n ≤ 1000000) (q : ∀ p, H p = none → N p) : IsObj n H N := ⟨Nat.le_trans h (by decide), q⟩
/-- o.f += e, o a name -/
def IsAug (K : PySem.W.Frag) (f : Str) (te : TE) (rd : V → V → Hp → VK → Prop) (x : V) (σ : L2.St) (H : Hp) (N : Hp → Prop) : Prop := ∃ a C dx fs v, x = .ref a ∧ H a = some (.ins C dx fs) ∧ Cls K C ∧ NoAttr K C f ∧ fs.lookup f = some v ∧
  te σ H fun y H2 => rd v y H2 fun z H3 => ∃ dx' fs', H3 a = some (.ins C dx' fs') ∧ fs'.length < 1000 ∧ N (upd H3 a (.ins C dx' (putF f z fs')))
theorem w_faug {f : Str} {rd : V → V → Hp → VK → Prop} (h : ta σ H fun x H1 => IsAug K f te rd x σ H1 fun H4 => D.nx σ H4) : sFldAug K ta te rd f D σ H := h
theorem w_augI {a C dx : Addr} {fs fs' : List (Str × V)} {f : Str} {N : Hp → Prop} {i j : Int} (h : H a = some (.ins C dx fs)) (hc : Cls K C) (hn : NoAttr K C f) (hl : fs.lookup f = some (.int i)) (hz : fs.length < 1000) (hp : putF f (.int (i + j)) fs = fs') (q : N (upd H a (.ins C dx fs'))) :
    IsAug K f (tC (.int j)) L2.rAdd (.ref a) σ H N := ⟨a, C, dx, fs, .int i, rfl, h, hc, hn, hl, i, j, rfl, rfl, dx, fs, h, hz, by rw [hp]; exact q⟩
theorem w_def {sp : Sp} {E : XK} (h : ts σ H fun vs H1 => sp vs H1 Q E) : tDef sp E ts σ H Q := h
theorem w_met {C : Addr} {m : Str} {sp : Sp} {E : XK} (h : ta σ H fun x H1 => IsOwn C m x H1 (ts σ H1 fun vs H2 => sp (x :: vs) H2 Q E)) : tMet C m sp E ta ts σ H Q := h
theorem w_own {a C dx : Addr} {fs : List (Str × V)} {m : Str} {N : Prop} (h : H a = some (.ins C dx fs)) (hl : fs.lookup m = none) (q : N) : IsOwn C m (.ref a) H N := ⟨a, dx, fs, rfl, h, hl, q⟩
theorem w_metD {tb : Addr → Sp → Prop} {m : Str} {E : XK} (h : ta σ H fun x H1 => IsOwnD tb m x H1 fun sp => ts σ H1 fun vs H2 => sp (x :: vs) H2 Q E) : tMetD tb m E ta ts σ H Q := h
theorem w_ownD {a C dx : Addr} {fs : List (Str × V)} {tbl : Addr → Sp → Prop} {m : Str} {sp : Sp} {N : Sp → Prop} (h : H a = some (.ins C dx fs)) (hl : fs.lookup m = none) (hb : tbl C sp) (q : N sp) : IsOwnD tbl m (.ref a) H N := ⟨a, C, dx, fs, sp, rfl, h, hl, hb, q⟩
theorem w_tnew {C : Addr} {k : Nat} {fo : List V → List (Str × V)} (h : ts σ H fun vs H1 => IsNew C k fo vs H1 Q) : tNew C k fo ts σ H Q := h
theorem w_err {C : Addr} {k : Nat} {fo : List V → List (Str × V)} {E : XK} (h : ts σ H fun vs H1 => IsErr C k fo vs H1 E) : tErr C k fo E ts D σ H := h
theorem w_bm {T : String} {r : V → List V → Hp → VK → Prop} (h : ta σ H fun x H1 => IsTy K T x H1 (ts σ H1 fun xs H2 => r x xs H2 Q)) : tBM K T r ta ts σ H Q := h
theorem w_bm0 {T : String} {r : V → List V → Hp → VK → Prop} (h : ta σ H fun x H1 => IsTy K T x H1 (r x [] H1 Q)) : tBM0 K T r ta σ H Q := h
theorem w_tyL {l : Addr} {xs : List V} {N : Prop} (h : H l = some (.lst xs)) (q : N) : IsTy K "list" (.ref l) H N := ⟨Or.inl ⟨rfl, xs, SqL.of h⟩, q⟩
theorem w_app {l : Addr} {xs : List V} (h : H l = some (.lst xs)) (hz : xs.length < sizeLine) (q : Q .non (upd H l (.lst (xs ++ [y])))) : rAppend (.ref l) [y] H Q := ⟨l, xs, y, rfl, rfl, h, hz, q⟩
theorem w_ext {l p : Addr} {xs ys : List V} (h : H l = some (.lst xs)) (h2 : H p = some (.lst ys)) (hz : xs.length + ys.length ≤ sizeLine) (q : Q .non (upd H l (.lst (xs ++ ys)))) : rExtend (.ref l) [.ref p] H Q := ⟨l, p, xs, ys, rfl, rfl, h, h2, hz, q⟩
end
/-! ### loops -/
def IsFor (J : It) (g : TG) (tb : TS) (D : Ends) (σ : L2.St) (H1 : Hp) : Prop := ∃ W : Nat → Nat → L2.St → Hp → Prop, (∃ m, W 0 m σ H1) ∧ ∀ i m σ H, W i m σ H →
  (J.stop i H ∧ D.nx σ H) ∨ (J.go i H ∧ ∃ N : L2.St → Hp → Prop, (∀ σ' H', N σ' H' → ∃ m', m' < m ∧ W (i + 1) m' σ' H') ∧ ∀ x H', J.yld i H x H' → g x σ H' fun σ2 H2 => tb { D with nx := N, ct := N, bk := D.nx } σ2 H2)
def IsForL (K : PySem.W.Frag) (g : TG) (tb : TS) (D : Ends) (σ : L2.St) (x : V) (H1 : Hp) : Prop := ∃ a, x = .ref a ∧ (∃ xs, SqL K H1 a xs) ∧ IsFor (Itl K a) g tb D σ H1
def IsForT (K : PySem.W.Frag) (g : TG) (tb : TS) (D : Ends) (σ : L2.St) (x : V) (H1 : Hp) : Prop := ∃ a, x = .ref a ∧ (∃ xs, SqT K H1 a xs) ∧ IsFor (Itt K a) g tb D σ H1
def IsForR (g : TG) (tb : TS) (D : Ends) (σ : L2.St) (vs : List V) (H1 : Hp) : Prop := ∃ j : Int, vs = [.int j] ∧ -(2 ^ 62) ≤ j ∧ j < 2 ^ 62 ∧ IsFor (Itr 0 j.toNat) g tb D σ H1
section
variable {K : PySem.W.Frag} {σ : L2.St} {H : Hp} {tl : TE} {ts : TA} {g : TG} {tb : TS} {D : Ends} {c : TT}
theorem w_forl (h : tl σ H fun x H1 => IsForL K g tb D σ x H1) : tFor (iList K tl) g tb D σ H := h
theorem w_fort (h : tl σ H fun x H1 => IsForT K g tb D σ x H1) : tFor (iTup K tl) g tb D σ H := h
theorem w_forr (h : ts σ H fun vs H1 => IsForR g tb D σ vs H1) : tFor (iRng1 ts) g tb D σ H := h
theorem w_isforl {a : Addr} {xs : List V} (Pv : Nat → L2.St → Hp → Prop) (h : SqL K H a xs) (h0 : Pv 0 σ H) (hl : ∀ i σ H, i ≤ xs.length → Pv i σ H → SqL K H a xs)
    (hs : ∀ i x σ H, xs[i]? = some x → Pv i σ H → g x σ H fun σ2 H2 => tb { D with nx := Pv (i + 1), ct := Pv (i + 1), bk := D.nx } σ2 H2) (hd : ∀ σ H, Pv xs.length σ H → D.nx σ H) : IsForL K g tb D σ (.ref a) H :=
  ⟨a, rfl, ⟨xs, h⟩, for_list Pv h0 hl hs hd⟩
theorem w_isfort {a : Addr} {xs : List V} (Pv : Nat → L2.St → Hp → Prop) (h : SqT K H a xs) (h0 : Pv 0 σ H) (hl : ∀ i σ H, i ≤ xs.length → Pv i σ H → SqT K H a xs)
    (hs : ∀ i x σ H, xs[i]? = some x → Pv i σ H → g x σ H fun σ2 H2 => tb { D with nx := Pv (i + 1), ct := Pv (i + 1), bk := D.nx } σ2 H2) (hd : ∀ σ H, Pv xs.length σ H → D.nx σ H) : IsForT K g tb D σ (.ref a) H :=
  ⟨a, rfl, ⟨xs, h⟩, for_tup Pv h0 hl hs hd⟩
theorem w_isforr {n : Nat} {j : Int} (hj : j = (n : Int)) (hz : n ≤ 1000000) (Pv : Nat → L2.St → Hp → Prop) (h0 : Pv 0 σ H)
    (hs : ∀ i σ H, i < n → Pv i σ H → g (.int (i : Nat)) σ H fun σ2 H2 => tb { D with nx := Pv (i + 1), ct := Pv (i + 1), bk := D.nx } σ2 H2) (hd : ∀ σ H, Pv n σ H → D.nx σ H) : IsForR g tb D σ [.int j] H := by
  subst hj
  refine ⟨_, rfl, by omega, by omega, ?_⟩
  have e : ((n : Int)).toNat = n := rfl
  rw [e]
  refine for_range (lo := 0) (n := n) Pv h0 (fun i σ' H' hi p => ?_) hd
  rw [Int.zero_add]
  exact hs i σ' H' hi p
/-- while: Pv with its measure m, from turn to turn -/
theorem w_while (Pv : Nat → L2.St → Hp → Prop) (m0 : Nat) (h0 : Pv m0 σ H)
    (hs : ∀ m σ H, Pv m σ H → c σ H fun b H1 => if b = true then ∃ N : L2.St → Hp → Prop, (∀ σ' H', N σ' H' → ∃ m', m' < m ∧ Pv m' σ' H') ∧ tb { D with nx := N, ct := N, bk := D.nx } σ H1 else D.nx σ H1) : tWhile c tb D σ H := ⟨Pv, ⟨m0, h0⟩, hs⟩
theorem w_turn {m : Nat} {Pv : Nat → L2.St → Hp → Prop} (h : tb { D with nx := fun σ' H' => ∃ m', m' < m ∧ Pv m' σ' H', ct := fun σ' H' => ∃ m', m' < m ∧ Pv m' σ' H', bk := D.nx } σ H) :
    ∃ N : L2.St → Hp → Prop, (∀ σ' H', N σ' H' → ∃ m', m' < m ∧ Pv m' σ' H') ∧ tb { D with nx := N, ct := N, bk := D.nx } σ H := ⟨_, fun _ _ z => z, h⟩
end
/-! ### enumerate, comprehensions, slices -/
def IsForE (K : PySem.W.Frag) (g : TG) (tb : TS) (D : Ends) (σ : L2.St) (vs : List V) (H1 : Hp) : Prop := ∃ a xs, vs = [.ref a] ∧ SqL K H1 a xs ∧ IsFor (Ite K a) g tb D σ H1
def IsLcL (K : PySem.W.Frag) (g : TG) (tt : TT) (te : TE) (ix : List Nat) (σ : L2.St) (x : V) (H1 : Hp) (Q : VK) : Prop := ∃ a, x = .ref a ∧ (∃ xs, SqL K H1 a xs) ∧ ∀ D, H1 D = none → ∃ W : Nat → Nat → Hp → Prop, (∃ m, W 0 m (upd H1 D (.lst []))) ∧ ∀ i m H, W i m H →
  ((Itl K a).stop i H ∧ Q (.ref D) H) ∨ ((Itl K a).go i H ∧ ∃ Nx : Hp → Prop, (∀ H', Nx H' → ∃ m', m' < m ∧ W (i + 1) m' H') ∧ ∀ x H', (Itl K a).yld i H x H' → g x (wipe σ ix) H' fun σ2 H2 => wipe σ2 ix = wipe σ ix ∧ tt σ2 H2 fun b H3 =>
    if b = true then te σ2 H3 fun z H4 => ∃ acc, H4 D = some (.lst acc) ∧ acc.length < sizeLine ∧ Nx (upd H4 D (.lst (acc ++ [z]))) else Nx H3)
section
variable {K : PySem.W.Frag} {σ : L2.St} {H : Hp} {tl te : TE} {tt : TT} {ts : TA} {g : TG} {tb : TS} {D : Ends} {Q : VK} {ix : List Nat}
theorem w_fore (h : ts σ H fun vs H1 => IsForE K g tb D σ vs H1) : tFor (iEnum K ts) g tb D σ H := h
theorem w_isfore {a : Addr} {xs : List V} (Pv : Nat → L2.St → Hp → Prop) (h : SqL K H a xs) (h0 : Pv 0 σ H) (hl : ∀ i σ H, i ≤ xs.length → Pv i σ H → SqL K H a xs)
    (hs : ∀ i x T σ H, xs[i]? = some x → H T = none → Pv i σ H → g (.ref T) σ (upd H T (.tup [.int (i : Nat), x])) fun σ2 H2 => tb { D with nx := Pv (i + 1), ct := Pv (i + 1), bk := D.nx } σ2 H2) (hd : ∀ σ H, Pv xs.length σ H → D.nx σ H) : IsForE K g tb D σ [.ref a] H := by
  refine ⟨a, xs, rfl, h, for_it (walk_enum (K := K) (a := a) (xs := xs)) Pv h0 hl (fun i x σ H H' hi p y => ?_) hd⟩
  obtain ⟨T, u, v, rfl, hT, rfl, e1, e2⟩ := y
  cases Option.some.inj e1
  exact hs i v T σ H e2 hT p
theorem w_lcl (h : tl σ H fun x H1 => IsLcL K g tt te ix σ x H1 Q) : tLc (iList K tl) g tt te ix σ H Q := h
theorem wipe_one {i : Nat} {x : V} : wipe ((wipe σ [i]).set i (some x)) [i] = wipe σ [i] := by
  show ((σ.set i none).set i (some x)).set i none = σ.set i none
  rw [List.set_set, List.set_set]
/-- a comprehension whose elements' values leave the heap as it is -/
theorem w_lcmap {a : Addr} {xs ys : List V} {j : Nat} (h : SqL K H a xs) (hz : xs.length ≤ 1000000) (hlen : ys.length = xs.length)
    (he : ∀ D i x y, H D = none → xs[i]? = some x → ys[i]? = some y → ∀ Q : VK, Q y (upd H D (.lst (ys.take i))) → te ((σ.set j none).set j (some x)) (upd H D (.lst (ys.take i))) Q)
    (q : ∀ D, H D = none → Q (.ref D) (upd H D (.lst ys))) : IsLcL K (gName j) tYes te [j] σ (.ref a) H Q := by
  refine ⟨a, rfl, ⟨xs, h⟩, fun D hD => ?_⟩
  refine lc_list (xs := xs) (fun i H' => H' = upd H D (.lst (ys.take i))) rfl (fun i H' _ e => by rw [e]; exact Same.seq (fun b u e => by rw [upd_ne (ne_of_none e hD)]; exact e) h) ?_ ?_
  · rintro i x H' hi rfl
    obtain ⟨y, hy⟩ : ∃ y, ys[i]? = some y := ⟨_, List.getElem?_eq_getElem (by rw [hlen]; exact (List.getElem?_eq_some_iff.mp hi).1)⟩
    refine ⟨wipe_one, ?_⟩
    show (if true = true then te ((wipe σ [j]).set j (some x)) (upd H D (.lst (ys.take i))) (fun y H4 => ∃ acc, H4 D = some (.lst acc) ∧ acc.length < sizeLine ∧ upd H4 D (.lst (acc ++ [y])) = upd H D (.lst (ys.take (i + 1)))) else upd H D (.lst (ys.take i)) = upd H D (.lst (ys.take (i + 1))))
    rw [if_pos rfl]
    refine he D i x y hD hi hy _ ⟨_, upd_same, ?_, ?_⟩
    · rw [List.length_take]
      have bnd := (List.getElem?_eq_some_iff.mp hi).1
      exact Nat.lt_of_lt_of_le (show min i ys.length < 2000000 by omega) (by decide)
    · rw [upd_upd, List.take_add_one, hy]
      rfl
  · rintro H' rfl
    have e : ys.take xs.length = ys := by rw [← hlen, List.take_length]
    rw [e]
    exact q D hD
def IsSl (K : PySem.W.Frag) (x : V) (lo hi : Option Int) (H : Hp) (Q : VK) : Prop := rSlL K x lo hi H Q
theorem w_sl {tlo thi : TO} (h : te σ H fun x H1 => tlo σ H1 fun l H2 => thi σ H2 fun u H3 => IsSl K x l u H3 Q) : tSl (rSlL K) te tlo thi σ H Q := h
theorem w_nopart {QO : Option Int → Hp → Prop} (h : QO none H) : tNoPart σ H QO := h
def IsPart (x : V) (H : Hp) (QO : Option Int → Hp → Prop) : Prop := ∃ i, x = .int i ∧ QO (some i) H
theorem w_part {QO : Option Int → Hp → Prop} (h : te σ H fun x H1 => IsPart x H1 QO) : tPart te σ H QO := h
theorem w_partI {QO : Option Int → Hp → Prop} {i : Int} (q : QO (some i) H) : IsPart (.int i) H QO := ⟨i, rfl, q⟩
theorem w_cut {a : Addr} {xs : List V} {lo hi : Option Int} (h : SqL K H a xs) (q : ∀ p, H p = none → Q (.ref p) (upd H p (.lst (cutV xs lo hi)))) : IsSl K (.ref a) lo hi H Q := ⟨a, xs, rfl, h, q⟩
theorem cutV_nat {xs : List V} {a b : Nat} (h : b ≤ xs.length) : cutV xs (some (a : Int)) (some (b : Int)) = (xs.take b).drop a := by
  unfold cutV
  rw [HT.sIx_nat, HT.sIx_nat, Nat.min_eq_left h, List.drop_take]
  by_cases hab : a ≤ xs.length
  · rw [Nat.min_eq_left hab]
  · rw [Nat.min_eq_right (by omega), List.drop_eq_nil_of_le (Nat.le_refl _), List.drop_eq_nil_of_le (by omega)]
    simp
theorem w_all {a : Addr} {bs : List Bool} (h : SqL K H a (bs.map V.bl)) (q : Q (.bl (bs.all id)) H) : rAll K [.ref a] H Q := ⟨a, bs, rfl, h, q⟩
theorem w_cat {a b : Addr} {xs ys : List V} (h1 : H a = some (.lst xs)) (h2 : H b = some (.lst ys)) (hz : xs.length + ys.length ≤ 1000000) (q : ∀ p, H p = none → Q (.ref p) (upd H p (.lst (xs ++ ys)))) : L2.rCat (.ref a) (.ref b) H Q :=
  ⟨a, b, xs, ys, rfl, rfl, h1, h2, Nat.le_trans hz (by decide), q⟩
end
/-! ### heaps that grow: S is the part of H that never changes; r may change -/
structure Grow (r : Addr → Prop) (S H S' H' : Hp) : Prop where
  same : ∀ b o, H b = some o → ¬ r b → H' b = some o
  stay : ∀ b, H' b = none → H b = none
  up : Same S S'
  sub : Same S' H'
  fresh : ∀ b, S' b ≠ none → S b ≠ none ∨ H b = none
theorem Grow.refl {r : Addr → Prop} {S H : Hp} (h : Same S H) : Grow r S H S H := ⟨fun _ _ e _ => e, fun _ e => e, Same.refl S, h, fun _ e => Or.inl e⟩
theorem Grow.trans {r : Addr → Prop} {S H S1 H1 S2 H2 : Hp} (a : Grow r S H S1 H1) (b : Grow r S1 H1 S2 H2) : Grow r S H S2 H2 := by
  refine ⟨fun q o e n => b.same q o (a.same q o e n) n, fun q e => a.stay q (b.stay q e), a.up.trans b.up, b.sub, fun q e => ?_⟩
  rcases b.fresh q e with h | h
  · exact a.fresh q h
  · exact Or.inr (a.stay q h)
theorem Grow.mono {r r' : Addr → Prop} {S H S' H' : Hp} (a : Grow r S H S' H') (h : ∀ q, r q → r' q) : Grow r' S H S' H' := ⟨fun q o e n => a.same q o e fun z => n (h q z), a.stay, a.up, a.sub, a.fresh⟩
/-- what stands in H beside S stands beside S' -/
theorem Grow.out {r : Addr → Prop} {S H S' H' : Hp} (a : Grow r S H S' H') {q : Addr} (h1 : H q ≠ none) (h2 : S q = none) : S' q = none := by
  cases e : S' q with
  | none => rfl
  | some o =>
    rcases a.fresh q (by rw [e]; exact fun z => nomatch z) with h | h
    · exact absurd h2 h
    · exact absurd h h1
/-- a new object, beside the unchanging -/
theorem Grow.made {r : Addr → Prop} {S H : Hp} {p : Addr} {o : HO} (hS : Same S H) (hp : H p = none) : Grow r S H S (upd H p o) :=
  ⟨fun q u e _ => by rw [upd_ne (ne_of_none e hp)]; exact e, fun q e => by
    by_cases hq : q = p
    · rw [hq]; exact hp
    · rw [upd_ne hq] at e; exact e, Same.refl S, fun q u e => by rw [upd_ne (ne_of_none (hS q u e) hp)]; exact hS q u e, fun _ e => Or.inl e⟩
/-- a new object that never changes -/
theorem Grow.laid {r : Addr → Prop} {S H : Hp} {p : Addr} {o : HO} (hS : Same S H) (hp : H p = none) : Grow r S H (upd S p o) (upd H p o) := by
  have sp : S p = none := hS.free hp
  refine ⟨(Grow.made (r := r) hS hp).same, (Grow.made (r := r) (o := o) hS hp).stay, fun q u e => ?_, fun q u e => ?_, fun q e => ?_⟩
  · rw [upd_ne (ne_of_none e sp)]; exact e
  · by_cases hq : q = p
    · subst hq
      rw [upd_same] at e ⊢
      exact e
    · rw [upd_ne hq] at e ⊢
      exact hS q u e
  · by_cases hq : q = p
    · exact Or.inr (by rw [hq]; exact hp)
    · rw [upd_ne hq] at e
      exact Or.inl e
/-- a store to what may change -/
theorem Grow.put {r : Addr → Prop} {S H : Hp} {p : Addr} {o : HO} (hS : Same S H) (hr : r p) (h1 : H p ≠ none) (h2 : S p = none) : Grow r S H S (upd H p o) := by
  refine ⟨fun q u e n => ?_, fun q e => ?_, Same.refl S, fun q u e => ?_, fun _ e => Or.inl e⟩
  · have hq : q ≠ p := fun z => n (by rw [z]; exact hr)
    rw [upd_ne hq]
    exact e
  · by_cases hq : q = p
    · rw [hq, upd_same] at e
      cases e
    · rw [upd_ne hq] at e
      exact e
  · rw [upd_ne (ne_of_none e h2)]
    exact hS q u e
/-- a store to what is new -/
theorem Grow.put_new {r : Addr → Prop} {S H S' H' : Hp} {p : Addr} {o : HO} (a : Grow r S H S' H') (h0 : H p = none) (h1 : H' p ≠ none) (h2 : S' p = none) : Grow r S H S' (upd H' p o) := by
  refine ⟨fun q u e n => ?_, fun q e => ?_, a.up, fun q u e => ?_, a.fresh⟩
  · rw [upd_ne (ne_of_none e h0)]
    exact a.same q u e n
  · by_cases hq : q = p
    · rw [hq, upd_same] at e
      cases e
    · rw [upd_ne hq] at e
      exact a.stay q e
  · rw [upd_ne (ne_of_none e h2)]
    exact a.sub q u e
/-- what is laid here already, and from now on never changes -/
theorem Grow.fix {r : Addr → Prop} {S H S' H' : Hp} {p : Addr} {o : HO} (a : Grow r S H S' H') (h0 : H p = none) (h1 : H' p = some o) : Grow r S H (upd S' p o) H' := by
  refine ⟨a.same, a.stay, fun q u e => ?_, fun q u e => ?_, fun q e => ?_⟩
  · by_cases hq : q = p
    · subst hq
      have z := a.sub q u (a.up q u e)
      rw [h1] at z
      rw [upd_same]
      exact z
    · rw [upd_ne hq]
      exact a.up q u e
  · by_cases hq : q = p
    · subst hq
      rw [upd_same] at e
      rw [h1]
      exact e
    · rw [upd_ne hq] at e
      exact a.sub q u e
  · by_cases hq : q = p
    · exact Or.inr (by rw [hq]; exact h0)
    · rw [upd_ne hq] at e
      exact a.fresh q e
end Oe
namespace Oe
open PySem PySem.Spec PyProof.Rows L2
abbrev s_Call_init : Stmt := inClass (top 2) 0
abbrev s_split_calls : Stmt := top 3
abbrev s_Given_init : Stmt := inClass (top 5) 0
abbrev s_Given_source : Stmt := inClass (top 5) 1
abbrev s_NoOutput_init : Stmt := inClass (top 6) 0
abbrev s_Constant_init : Stmt := inClass (top 7) 0
abbrev s_Constant_given_on : Stmt := inClass (top 7) 1
abbrev s_Part_init : Stmt := inClass (top 8) 0
abbrev s_Part_given_on : Stmt := inClass (top 8) 1
abbrev s_capital : Stmt := top 9
abbrev s_small : Stmt := top 10
abbrev s_turned : Stmt := top 11
abbrev s_all_given : Stmt := top 12
abbrev s_joined : Stmt := top 13
abbrev s_is_plain : Stmt := top 19
abbrev s_is_field : Stmt := top 20
abbrev s_is_record : Stmt := top 21
abbrev s_split_texts : Stmt := top 22
abbrev s_told_record : Stmt := top 23
abbrev s_Edit_init : Stmt := inClass (top 30) 0
abbrev s_Shown_init : Stmt := inClass (top 31) 0
abbrev s_need_text : Stmt := top 32
abbrev s_common_beginning : Stmt := top 33
abbrev s_common_end : Stmt := top 34
abbrev s_narrowed : Stmt := top 35
abbrev s_holders : Stmt := top 36
abbrev s_changed_record : Stmt := top 37
abbrev s_gives : Stmt := top 38
abbrev s_led_back : Stmt := top 39
abbrev s_is_led_back : Stmt := top 40
abbrev s_whole_edit : Stmt := top 41
abbrev s_free_bytes : Stmt := top 42
abbrev s_in_spans : Stmt := top 46
abbrev s_is_letter_or_digit : Stmt := top 47
abbrev s_stands_behind : Stmt := top 48
abbrev s_begins : Stmt := top 49
abbrev s_ends : Stmt := top 50
abbrev s_borders : Stmt := top 51
abbrev s_FromStart_init : Stmt := inClass (top 53) 0
abbrev s_FromStart_place_in : Stmt := inClass (top 53) 1
abbrev s_FromEnd_init : Stmt := inClass (top 54) 0
abbrev s_FromEnd_place_in : Stmt := inClass (top 54) 1
abbrev s_Border_init : Stmt := inClass (top 55) 0
abbrev s_Border_place_in : Stmt := inClass (top 55) 1
abbrev s_Fault_init : Stmt := inClass (top 64) 0
abbrev s_Reader_init : Stmt := inClass (top 65) 0
abbrev s_Reader_stands_within : Stmt := inClass (top 65) 1
abbrev s_Reader_stands : Stmt := inClass (top 65) 2
abbrev s_Reader_skip : Stmt := inClass (top 65) 3
abbrev s_Reader_take : Stmt := inClass (top 65) 4
abbrev s_Reader_need : Stmt := inClass (top 65) 5
abbrev s_Reader_need_end : Stmt := inClass (top 65) 6
abbrev s_read_program : Stmt := top 66
abbrev s_read_piece : Stmt := top 67
abbrev s_read_constant : Stmt := top 68
abbrev s_read_part : Stmt := top 69
abbrev s_read_turn : Stmt := top 70
abbrev s_read_position : Stmt := top 71
abbrev s_read_border : Stmt := top 72
abbrev s_read_class : Stmt := top 73
abbrev s_read_quoted : Stmt := top 74
abbrev s_read_digit : Stmt := top 75
abbrev s_read_number : Stmt := top 76
abbrev s_Desk_init : Stmt := inClass (top 80) 0
abbrev s_answer_program : Stmt := top 81
abbrev s_answer_record : Stmt := top 82
abbrev s_answer_output : Stmt := top 83
abbrev s_answer_fields : Stmt := top 84
abbrev s_answer_sources : Stmt := top 85
abbrev s_answer_piece : Stmt := top 86
abbrev s_answer_spread : Stmt := top 87
abbrev s_edited_record : Stmt := top 88
abbrev s_change_record : Stmt := top 89
abbrev s_answer_could : Stmt := top 90
abbrev s_answer_edit : Stmt := top 91
abbrev s_answer_whole : Stmt := top 92
abbrev s_answer_free : Stmt := top 93
abbrev s_answer_undo : Stmt := top 94
abbrev s_answer_call : Stmt := top 96
abbrev s_answers : Stmt := top 97
/-- where the top's classes and tables stand -/
structure Ads where
  c_Call : Addr
  c_Given : Addr
  c_NoOutput : Addr
  c_Constant : Addr
  c_Part : Addr
  c_NoSuchPlace : Addr
  c_NoSuchText : Addr
  c_NoPart : Addr
  c_NotLedBack : Addr
  c_Edit : Addr
  c_Shown : Addr
  c_FromStart : Addr
  c_FromEnd : Addr
  c_Border : Addr
  c_Fault : Addr
  c_Reader : Addr
  c_Desk : Addr
  g_SHAPES : Addr
  g_LETTERS_AND_DIGITS : Addr
  g_CLASSES : Addr
  g_ANSWERERS : Addr
  f_answer_program : Addr
  f_answer_record : Addr
  f_answer_output : Addr
  f_answer_fields : Addr
  f_answer_sources : Addr
  f_answer_piece : Addr
  f_answer_spread : Addr
  f_answer_could : Addr
  f_answer_edit : Addr
  f_answer_whole : Addr
  f_answer_free : Addr
  f_answer_undo : Addr
@[irreducible] def fs_Call (x0 x1 x2 : V) : List (Str × V) := [("kind", x0), ("numbers", x1), ("row", x2)]
@[irreducible] def fs_Given (x0 x1 x2 : V) : List (Str × V) := [("text", x0), ("field", x1), ("start", x2)]
@[irreducible] def fs_Constant (x0 : V) : List (Str × V) := [("text", x0)]
@[irreducible] def fs_Part (x0 x1 x2 x3 : V) : List (Str × V) := [("field", x0), ("first", x1), ("last", x2), ("turn", x3)]
@[irreducible] def fs_Edit (x0 x1 x2 : V) : List (Str × V) := [("start", x0), ("end", x1), ("text", x2)]
@[irreducible] def fs_Shown (x0 x1 x2 x3 : V) : List (Str × V) := [("program", x0), ("record", x1), ("givens", x2), ("output", x3)]
@[irreducible] def fs_FromStart (x0 : V) : List (Str × V) := [("distance", x0)]
@[irreducible] def fs_FromEnd (x0 : V) : List (Str × V) := [("distance", x0)]
@[irreducible] def fs_Border (x0 x1 x2 x3 : V) : List (Str × V) := [("left", x0), ("right", x1), ("nth", x2), ("from_right", x3)]
@[irreducible] def fs_Reader (x0 x1 : V) : List (Str × V) := [("text", x0), ("place", x1)]
@[irreducible] def fs_Desk (x0 x1 x2 : V) : List (Str × V) := [("program", x0), ("record", x1), ("past", x2)]
def fo_Call : List V → List (Str × V)
  | [a0, a1, a2] => fs_Call a0 a1 a2
  | _ => []
def fo_Given : List V → List (Str × V)
  | [a0, a1, a2] => fs_Given a0 a1 a2
  | _ => []
def fo_Constant : List V → List (Str × V)
  | [a0] => fs_Constant a0
  | _ => []
def fo_Part : List V → List (Str × V)
  | [a0, a1, a2, a3] => fs_Part a0 a1 a2 a3
  | _ => []
def fo_Edit : List V → List (Str × V)
  | [a0, a1, a2] => fs_Edit a0 a1 a2
  | _ => []
def fo_FromStart : List V → List (Str × V)
  | [a0] => fs_FromStart a0
  | _ => []
def fo_FromEnd : List V → List (Str × V)
  | [a0] => fs_FromEnd a0
  | _ => []
def fo_Border : List V → List (Str × V)
  | [a0, a1, a2, a3] => fs_Border a0 a1 a2 a3
  | _ => []
def fo_Reader : List V → List (Str × V)
  | [a0] => fs_Reader a0 (.int 0)
  | _ => []
theorem lk_here {k : Str} {v : V} {r : List (Str × V)} : List.lookup k ((k, v) :: r) = some v := by
  have e : (k == k) = true := beq_self_eq_true k
  simp only [List.lookup, e]
theorem lk_past {k g : Str} {v : V} {r : List (Str × V)} (h : (k == g) = false) : List.lookup k ((g, v) :: r) = List.lookup k r := by
  simp only [List.lookup, h]
theorem pf_here {f : Str} {v x : V} {r : List (Str × V)} : putF f v ((f, x) :: r) = (f, v) :: r := if_pos rfl
theorem pf_past {f g : Str} {v x : V} {r : List (Str × V)} (h : ¬ g = f) : putF f v ((g, x) :: r) = (g, x) :: putF f v r := if_neg h
theorem cons_eq {a : Str × V} {r s : List (Str × V)} (h : r = s) : a :: r = a :: s := by rw [h]
theorem lk_Call_kind {x0 x1 x2 : V} : (fs_Call x0 x1 x2).lookup ("kind" : Str) = some x0 := by
  unfold fs_Call
  exact lk_here
theorem pt_Call_kind {x0 x1 x2 y : V} : putF "kind" y (fs_Call x0 x1 x2) = fs_Call y x1 x2 := by
  unfold fs_Call
  exact pf_here
theorem ln_Call {x0 x1 x2 : V} : (fs_Call x0 x1 x2).length < 1000 := by
  unfold fs_Call
  show 3 < 1000
  decide
theorem lk_Call_numbers {x0 x1 x2 : V} : (fs_Call x0 x1 x2).lookup ("numbers" : Str) = some x1 := by
  unfold fs_Call
  exact (lk_past (by decide +kernel)).trans (lk_here)
theorem pt_Call_numbers {x0 x1 x2 y : V} : putF "numbers" y (fs_Call x0 x1 x2) = fs_Call x0 y x2 := by
  unfold fs_Call
  exact (pf_past (by decide +kernel)).trans (cons_eq (pf_here))
theorem lk_Call_row {x0 x1 x2 : V} : (fs_Call x0 x1 x2).lookup ("row" : Str) = some x2 := by
  unfold fs_Call
  exact (lk_past (by decide +kernel)).trans ((lk_past (by decide +kernel)).trans (lk_here))
theorem pt_Call_row {x0 x1 x2 y : V} : putF "row" y (fs_Call x0 x1 x2) = fs_Call x0 x1 y := by
  unfold fs_Call
  exact (pf_past (by decide +kernel)).trans (cons_eq ((pf_past (by decide +kernel)).trans (cons_eq (pf_here))))
theorem lk_Given_text {x0 x1 x2 : V} : (fs_Given x0 x1 x2).lookup ("text" : Str) = some x0 := by
  unfold fs_Given
  exact lk_here
theorem pt_Given_text {x0 x1 x2 y : V} : putF "text" y (fs_Given x0 x1 x2) = fs_Given y x1 x2 := by
  unfold fs_Given
  exact pf_here
theorem ln_Given {x0 x1 x2 : V} : (fs_Given x0 x1 x2).length < 1000 := by
  unfold fs_Given
  show 3 < 1000
  decide
theorem lk_Given_field {x0 x1 x2 : V} : (fs_Given x0 x1 x2).lookup ("field" : Str) = some x1 := by
  unfold fs_Given
  exact (lk_past (by decide +kernel)).trans (lk_here)
theorem pt_Given_field {x0 x1 x2 y : V} : putF "field" y (fs_Given x0 x1 x2) = fs_Given x0 y x2 := by
  unfold fs_Given
  exact (pf_past (by decide +kernel)).trans (cons_eq (pf_here))
theorem lk_Given_start {x0 x1 x2 : V} : (fs_Given x0 x1 x2).lookup ("start" : Str) = some x2 := by
  unfold fs_Given
  exact (lk_past (by decide +kernel)).trans ((lk_past (by decide +kernel)).trans (lk_here))
theorem pt_Given_start {x0 x1 x2 y : V} : putF "start" y (fs_Given x0 x1 x2) = fs_Given x0 x1 y := by
  unfold fs_Given
  exact (pf_past (by decide +kernel)).trans (cons_eq ((pf_past (by decide +kernel)).trans (cons_eq (pf_here))))
theorem nm_Given_source {x0 x1 x2 : V} : (fs_Given x0 x1 x2).lookup ("source" : Str) = none := by
  unfold fs_Given
  exact (lk_past (by decide +kernel)).trans ((lk_past (by decide +kernel)).trans ((lk_past (by decide +kernel)).trans (rfl)))
theorem lk_Constant_text {x0 : V} : (fs_Constant x0).lookup ("text" : Str) = some x0 := by
  unfold fs_Constant
  exact lk_here
theorem pt_Constant_text {x0 y : V} : putF "text" y (fs_Constant x0) = fs_Constant y := by
  unfold fs_Constant
  exact pf_here
theorem ln_Constant {x0 : V} : (fs_Constant x0).length < 1000 := by
  unfold fs_Constant
  show 1 < 1000
  decide
theorem nm_Constant_given_on {x0 : V} : (fs_Constant x0).lookup ("given_on" : Str) = none := by
  unfold fs_Constant
  exact (lk_past (by decide +kernel)).trans (rfl)
theorem lk_Part_field {x0 x1 x2 x3 : V} : (fs_Part x0 x1 x2 x3).lookup ("field" : Str) = some x0 := by
  unfold fs_Part
  exact lk_here
theorem pt_Part_field {x0 x1 x2 x3 y : V} : putF "field" y (fs_Part x0 x1 x2 x3) = fs_Part y x1 x2 x3 := by
  unfold fs_Part
  exact pf_here
theorem ln_Part {x0 x1 x2 x3 : V} : (fs_Part x0 x1 x2 x3).length < 1000 := by
  unfold fs_Part
  show 4 < 1000
  decide
theorem lk_Part_first {x0 x1 x2 x3 : V} : (fs_Part x0 x1 x2 x3).lookup ("first" : Str) = some x1 := by
  unfold fs_Part
  exact (lk_past (by decide +kernel)).trans (lk_here)
theorem pt_Part_first {x0 x1 x2 x3 y : V} : putF "first" y (fs_Part x0 x1 x2 x3) = fs_Part x0 y x2 x3 := by
  unfold fs_Part
  exact (pf_past (by decide +kernel)).trans (cons_eq (pf_here))
theorem lk_Part_last {x0 x1 x2 x3 : V} : (fs_Part x0 x1 x2 x3).lookup ("last" : Str) = some x2 := by
  unfold fs_Part
  exact (lk_past (by decide +kernel)).trans ((lk_past (by decide +kernel)).trans (lk_here))
theorem pt_Part_last {x0 x1 x2 x3 y : V} : putF "last" y (fs_Part x0 x1 x2 x3) = fs_Part x0 x1 y x3 := by
  unfold fs_Part
  exact (pf_past (by decide +kernel)).trans (cons_eq ((pf_past (by decide +kernel)).trans (cons_eq (pf_here))))
theorem lk_Part_turn {x0 x1 x2 x3 : V} : (fs_Part x0 x1 x2 x3).lookup ("turn" : Str) = some x3 := by
  unfold fs_Part
  exact (lk_past (by decide +kernel)).trans ((lk_past (by decide +kernel)).trans ((lk_past (by decide +kernel)).trans (lk_here)))
theorem pt_Part_turn {x0 x1 x2 x3 y : V} : putF "turn" y (fs_Part x0 x1 x2 x3) = fs_Part x0 x1 x2 y := by
  unfold fs_Part
  exact (pf_past (by decide +kernel)).trans (cons_eq ((pf_past (by decide +kernel)).trans (cons_eq ((pf_past (by decide +kernel)).trans (cons_eq (pf_here))))))
theorem nm_Part_given_on {x0 x1 x2 x3 : V} : (fs_Part x0 x1 x2 x3).lookup ("given_on" : Str) = none := by
  unfold fs_Part
  exact (lk_past (by decide +kernel)).trans ((lk_past (by decide +kernel)).trans ((lk_past (by decide +kernel)).trans ((lk_past (by decide +kernel)).trans (rfl))))
theorem lk_Edit_start {x0 x1 x2 : V} : (fs_Edit x0 x1 x2).lookup ("start" : Str) = some x0 := by
  unfold fs_Edit
  exact lk_here
theorem pt_Edit_start {x0 x1 x2 y : V} : putF "start" y (fs_Edit x0 x1 x2) = fs_Edit y x1 x2 := by
  unfold fs_Edit
  exact pf_here
theorem ln_Edit {x0 x1 x2 : V} : (fs_Edit x0 x1 x2).length < 1000 := by
  unfold fs_Edit
  show 3 < 1000
  decide
theorem lk_Edit_end {x0 x1 x2 : V} : (fs_Edit x0 x1 x2).lookup ("end" : Str) = some x1 := by
  unfold fs_Edit
  exact (lk_past (by decide +kernel)).trans (lk_here)
theorem pt_Edit_end {x0 x1 x2 y : V} : putF "end" y (fs_Edit x0 x1 x2) = fs_Edit x0 y x2 := by
  unfold fs_Edit
  exact (pf_past (by decide +kernel)).trans (cons_eq (pf_here))
theorem lk_Edit_text {x0 x1 x2 : V} : (fs_Edit x0 x1 x2).lookup ("text" : Str) = some x2 := by
  unfold fs_Edit
  exact (lk_past (by decide +kernel)).trans ((lk_past (by decide +kernel)).trans (lk_here))
theorem pt_Edit_text {x0 x1 x2 y : V} : putF "text" y (fs_Edit x0 x1 x2) = fs_Edit x0 x1 y := by
  unfold fs_Edit
  exact (pf_past (by decide +kernel)).trans (cons_eq ((pf_past (by decide +kernel)).trans (cons_eq (pf_here))))
theorem lk_Shown_program {x0 x1 x2 x3 : V} : (fs_Shown x0 x1 x2 x3).lookup ("program" : Str) = some x0 := by
  unfold fs_Shown
  exact lk_here
theorem pt_Shown_program {x0 x1 x2 x3 y : V} : putF "program" y (fs_Shown x0 x1 x2 x3) = fs_Shown y x1 x2 x3 := by
  unfold fs_Shown
  exact pf_here
theorem ln_Shown {x0 x1 x2 x3 : V} : (fs_Shown x0 x1 x2 x3).length < 1000 := by
  unfold fs_Shown
  show 4 < 1000
  decide
theorem lk_Shown_record {x0 x1 x2 x3 : V} : (fs_Shown x0 x1 x2 x3).lookup ("record" : Str) = some x1 := by
  unfold fs_Shown
  exact (lk_past (by decide +kernel)).trans (lk_here)
theorem pt_Shown_record {x0 x1 x2 x3 y : V} : putF "record" y (fs_Shown x0 x1 x2 x3) = fs_Shown x0 y x2 x3 := by
  unfold fs_Shown
  exact (pf_past (by decide +kernel)).trans (cons_eq (pf_here))
theorem lk_Shown_givens {x0 x1 x2 x3 : V} : (fs_Shown x0 x1 x2 x3).lookup ("givens" : Str) = some x2 := by
  unfold fs_Shown
  exact (lk_past (by decide +kernel)).trans ((lk_past (by decide +kernel)).trans (lk_here))
theorem pt_Shown_givens {x0 x1 x2 x3 y : V} : putF "givens" y (fs_Shown x0 x1 x2 x3) = fs_Shown x0 x1 y x3 := by
  unfold fs_Shown
  exact (pf_past (by decide +kernel)).trans (cons_eq ((pf_past (by decide +kernel)).trans (cons_eq (pf_here))))
theorem lk_Shown_output {x0 x1 x2 x3 : V} : (fs_Shown x0 x1 x2 x3).lookup ("output" : Str) = some x3 := by
  unfold fs_Shown
  exact (lk_past (by decide +kernel)).trans ((lk_past (by decide +kernel)).trans ((lk_past (by decide +kernel)).trans (lk_here)))
theorem pt_Shown_output {x0 x1 x2 x3 y : V} : putF "output" y (fs_Shown x0 x1 x2 x3) = fs_Shown x0 x1 x2 y := by
  unfold fs_Shown
  exact (pf_past (by decide +kernel)).trans (cons_eq ((pf_past (by decide +kernel)).trans (cons_eq ((pf_past (by decide +kernel)).trans (cons_eq (pf_here))))))
theorem lk_FromStart_distance {x0 : V} : (fs_FromStart x0).lookup ("distance" : Str) = some x0 := by
  unfold fs_FromStart
  exact lk_here
theorem pt_FromStart_distance {x0 y : V} : putF "distance" y (fs_FromStart x0) = fs_FromStart y := by
  unfold fs_FromStart
  exact pf_here
theorem ln_FromStart {x0 : V} : (fs_FromStart x0).length < 1000 := by
  unfold fs_FromStart
  show 1 < 1000
  decide
theorem nm_FromStart_place_in {x0 : V} : (fs_FromStart x0).lookup ("place_in" : Str) = none := by
  unfold fs_FromStart
  exact (lk_past (by decide +kernel)).trans (rfl)
theorem lk_FromEnd_distance {x0 : V} : (fs_FromEnd x0).lookup ("distance" : Str) = some x0 := by
  unfold fs_FromEnd
  exact lk_here
theorem pt_FromEnd_distance {x0 y : V} : putF "distance" y (fs_FromEnd x0) = fs_FromEnd y := by
  unfold fs_FromEnd
  exact pf_here
theorem ln_FromEnd {x0 : V} : (fs_FromEnd x0).length < 1000 := by
  unfold fs_FromEnd
  show 1 < 1000
  decide
theorem nm_FromEnd_place_in {x0 : V} : (fs_FromEnd x0).lookup ("place_in" : Str) = none := by
  unfold fs_FromEnd
  exact (lk_past (by decide +kernel)).trans (rfl)
theorem lk_Border_left {x0 x1 x2 x3 : V} : (fs_Border x0 x1 x2 x3).lookup ("left" : Str) = some x0 := by
  unfold fs_Border
  exact lk_here
theorem pt_Border_left {x0 x1 x2 x3 y : V} : putF "left" y (fs_Border x0 x1 x2 x3) = fs_Border y x1 x2 x3 := by
  unfold fs_Border
  exact pf_here
theorem ln_Border {x0 x1 x2 x3 : V} : (fs_Border x0 x1 x2 x3).length < 1000 := by
  unfold fs_Border
  show 4 < 1000
  decide
theorem lk_Border_right {x0 x1 x2 x3 : V} : (fs_Border x0 x1 x2 x3).lookup ("right" : Str) = some x1 := by
  unfold fs_Border
  exact (lk_past (by decide +kernel)).trans (lk_here)
theorem pt_Border_right {x0 x1 x2 x3 y : V} : putF "right" y (fs_Border x0 x1 x2 x3) = fs_Border x0 y x2 x3 := by
  unfold fs_Border
  exact (pf_past (by decide +kernel)).trans (cons_eq (pf_here))
theorem lk_Border_nth {x0 x1 x2 x3 : V} : (fs_Border x0 x1 x2 x3).lookup ("nth" : Str) = some x2 := by
  unfold fs_Border
  exact (lk_past (by decide +kernel)).trans ((lk_past (by decide +kernel)).trans (lk_here))
theorem pt_Border_nth {x0 x1 x2 x3 y : V} : putF "nth" y (fs_Border x0 x1 x2 x3) = fs_Border x0 x1 y x3 := by
  unfold fs_Border
  exact (pf_past (by decide +kernel)).trans (cons_eq ((pf_past (by decide +kernel)).trans (cons_eq (pf_here))))
theorem lk_Border_from_right {x0 x1 x2 x3 : V} : (fs_Border x0 x1 x2 x3).lookup ("from_right" : Str) = some x3 := by
  unfold fs_Border
  exact (lk_past (by decide +kernel)).trans ((lk_past (by decide +kernel)).trans ((lk_past (by decide +kernel)).trans (lk_here)))
theorem pt_Border_from_right {x0 x1 x2 x3 y : V} : putF "from_right" y (fs_Border x0 x1 x2 x3) = fs_Border x0 x1 x2 y := by
  unfold fs_Border
  exact (pf_past (by decide +kernel)).trans (cons_eq ((pf_past (by decide +kernel)).trans (cons_eq ((pf_past (by decide +kernel)).trans (cons_eq (pf_here))))))
theorem nm_Border_place_in {x0 x1 x2 x3 : V} : (fs_Border x0 x1 x2 x3).lookup ("place_in" : Str) = none := by
  unfold fs_Border
  exact (lk_past (by decide +kernel)).trans ((lk_past (by decide +kernel)).trans ((lk_past (by decide +kernel)).trans ((lk_past (by decide +kernel)).trans (rfl))))
theorem lk_Reader_text {x0 x1 : V} : (fs_Reader x0 x1).lookup ("text" : Str) = some x0 := by
  unfold fs_Reader
  exact lk_here
theorem pt_Reader_text {x0 x1 y : V} : putF "text" y (fs_Reader x0 x1) = fs_Reader y x1 := by
  unfold fs_Reader
  exact pf_here
theorem ln_Reader {x0 x1 : V} : (fs_Reader x0 x1).length < 1000 := by
  unfold fs_Reader
  show 2 < 1000
  decide
theorem lk_Reader_place {x0 x1 : V} : (fs_Reader x0 x1).lookup ("place" : Str) = some x1 := by
  unfold fs_Reader
  exact (lk_past (by decide +kernel)).trans (lk_here)
theorem pt_Reader_place {x0 x1 y : V} : putF "place" y (fs_Reader x0 x1) = fs_Reader x0 y := by
  unfold fs_Reader
  exact (pf_past (by decide +kernel)).trans (cons_eq (pf_here))
theorem nm_Reader_stands_within {x0 x1 : V} : (fs_Reader x0 x1).lookup ("stands_within" : Str) = none := by
  unfold fs_Reader
  exact (lk_past (by decide +kernel)).trans ((lk_past (by decide +kernel)).trans (rfl))
theorem nm_Reader_stands {x0 x1 : V} : (fs_Reader x0 x1).lookup ("stands" : Str) = none := by
  unfold fs_Reader
  exact (lk_past (by decide +kernel)).trans ((lk_past (by decide +kernel)).trans (rfl))
theorem nm_Reader_skip {x0 x1 : V} : (fs_Reader x0 x1).lookup ("skip" : Str) = none := by
  unfold fs_Reader
  exact (lk_past (by decide +kernel)).trans ((lk_past (by decide +kernel)).trans (rfl))
theorem nm_Reader_take {x0 x1 : V} : (fs_Reader x0 x1).lookup ("take" : Str) = none := by
  unfold fs_Reader
  exact (lk_past (by decide +kernel)).trans ((lk_past (by decide +kernel)).trans (rfl))
theorem nm_Reader_need {x0 x1 : V} : (fs_Reader x0 x1).lookup ("need" : Str) = none := by
  unfold fs_Reader
  exact (lk_past (by decide +kernel)).trans ((lk_past (by decide +kernel)).trans (rfl))
theorem nm_Reader_need_end {x0 x1 : V} : (fs_Reader x0 x1).lookup ("need_end" : Str) = none := by
  unfold fs_Reader
  exact (lk_past (by decide +kernel)).trans ((lk_past (by decide +kernel)).trans (rfl))
theorem lk_Desk_program {x0 x1 x2 : V} : (fs_Desk x0 x1 x2).lookup ("program" : Str) = some x0 := by
  unfold fs_Desk
  exact lk_here
theorem pt_Desk_program {x0 x1 x2 y : V} : putF "program" y (fs_Desk x0 x1 x2) = fs_Desk y x1 x2 := by
  unfold fs_Desk
  exact pf_here
theorem ln_Desk {x0 x1 x2 : V} : (fs_Desk x0 x1 x2).length < 1000 := by
  unfold fs_Desk
  show 3 < 1000
  decide
theorem lk_Desk_record {x0 x1 x2 : V} : (fs_Desk x0 x1 x2).lookup ("record" : Str) = some x1 := by
  unfold fs_Desk
  exact (lk_past (by decide +kernel)).trans (lk_here)
theorem pt_Desk_record {x0 x1 x2 y : V} : putF "record" y (fs_Desk x0 x1 x2) = fs_Desk x0 y x2 := by
  unfold fs_Desk
  exact (pf_past (by decide +kernel)).trans (cons_eq (pf_here))
theorem lk_Desk_past {x0 x1 x2 : V} : (fs_Desk x0 x1 x2).lookup ("past" : Str) = some x2 := by
  unfold fs_Desk
  exact (lk_past (by decide +kernel)).trans ((lk_past (by decide +kernel)).trans (lk_here))
theorem pt_Desk_past {x0 x1 x2 y : V} : putF "past" y (fs_Desk x0 x1 x2) = fs_Desk x0 x1 y := by
  unfold fs_Desk
  exact (pf_past (by decide +kernel)).trans (cons_eq ((pf_past (by decide +kernel)).trans (cons_eq (pf_here))))
/-- what the top has written, as the bodies want it -/
structure Fx (K : PySem.W.Frag) (mg : Str → Option Value) (A : Ads) : Prop where
  cl_Call : Cls K A.c_Call
  n_Call_kind : NoAttr K A.c_Call "kind"
  n_Call_numbers : NoAttr K A.c_Call "numbers"
  n_Call_row : NoAttr K A.c_Call "row"
  cl_Given : Cls K A.c_Given
  n_Given_text : NoAttr K A.c_Given "text"
  n_Given_field : NoAttr K A.c_Given "field"
  n_Given_start : NoAttr K A.c_Given "start"
  cl_Constant : Cls K A.c_Constant
  n_Constant_text : NoAttr K A.c_Constant "text"
  cl_Part : Cls K A.c_Part
  n_Part_field : NoAttr K A.c_Part "field"
  n_Part_first : NoAttr K A.c_Part "first"
  n_Part_last : NoAttr K A.c_Part "last"
  n_Part_turn : NoAttr K A.c_Part "turn"
  cl_Edit : Cls K A.c_Edit
  n_Edit_start : NoAttr K A.c_Edit "start"
  n_Edit_end : NoAttr K A.c_Edit "end"
  n_Edit_text : NoAttr K A.c_Edit "text"
  cl_Shown : Cls K A.c_Shown
  n_Shown_program : NoAttr K A.c_Shown "program"
  n_Shown_record : NoAttr K A.c_Shown "record"
  n_Shown_givens : NoAttr K A.c_Shown "givens"
  n_Shown_output : NoAttr K A.c_Shown "output"
  cl_FromStart : Cls K A.c_FromStart
  n_FromStart_distance : NoAttr K A.c_FromStart "distance"
  cl_FromEnd : Cls K A.c_FromEnd
  n_FromEnd_distance : NoAttr K A.c_FromEnd "distance"
  cl_Border : Cls K A.c_Border
  n_Border_left : NoAttr K A.c_Border "left"
  n_Border_right : NoAttr K A.c_Border "right"
  n_Border_nth : NoAttr K A.c_Border "nth"
  n_Border_from_right : NoAttr K A.c_Border "from_right"
  cl_Reader : Cls K A.c_Reader
  n_Reader_text : NoAttr K A.c_Reader "text"
  n_Reader_place : NoAttr K A.c_Reader "place"
  cl_Desk : Cls K A.c_Desk
  n_Desk_program : NoAttr K A.c_Desk "program"
  n_Desk_record : NoAttr K A.c_Desk "record"
  n_Desk_past : NoAttr K A.c_Desk "past"
  m_SHAPES : mg "SHAPES" = some (.ref A.g_SHAPES)
  m_MOST_FIELDS : ∃ t, mg "MOST_FIELDS" = some (.int 4 t)
  m_LONGEST_FIELD : ∃ t, mg "LONGEST_FIELD" = some (.int 40 t)
  m_LOWEST_BYTE : ∃ t, mg "LOWEST_BYTE" = some (.int 32 t)
  m_HIGHEST_BYTE : ∃ t, mg "HIGHEST_BYTE" = some (.int 126 t)
  m_LONGEST_TEXT : ∃ t, mg "LONGEST_TEXT" = some (.int 240 t)
  m_LETTERS_AND_DIGITS : mg "LETTERS_AND_DIGITS" = some (.ref A.g_LETTERS_AND_DIGITS)
  m_CLASSES : mg "CLASSES" = some (.ref A.g_CLASSES)
  m_MOST_PIECES : ∃ t, mg "MOST_PIECES" = some (.int 6 t)
  m_LONGEST_CONSTANT : ∃ t, mg "LONGEST_CONSTANT" = some (.int 12 t)
  m_MISPLACED : ∃ t, mg "MISPLACED" = some (.int 1 t)
  m_CONSTANT_LENGTH : ∃ t, mg "CONSTANT_LENGTH" = some (.int 2 t)
  m_NUMBER : ∃ t, mg "NUMBER" = some (.int 3 t)
  m_TWO_EMPTY_CLASSES : ∃ t, mg "TWO_EMPTY_CLASSES" = some (.int 4 t)
  m_PIECE_TOO_MANY : ∃ t, mg "PIECE_TOO_MANY" = some (.int 5 t)
  m_LONGEST_PROGRAM : ∃ t, mg "LONGEST_PROGRAM" = some (.int 1000 t)
  m_MOST_PAST : ∃ t, mg "MOST_PAST" = some (.int 50 t)
  m_ANSWERERS : mg "ANSWERERS" = some (.ref A.g_ANSWERERS)
  e_NoOutput : mg "NoOutput" = some (.ref A.c_NoOutput)
  ex_NoOutput : ∃ fI, PySem.OeX.ErrC K A.c_NoOutput fI
  nf_NoOutput_piece : PySem.W.findIn K (.ref A.c_NoOutput) "piece" = some none
  e_NoPart : mg "NoPart" = some (.ref A.c_NoPart)
  e_NoSuchPlace : mg "NoSuchPlace" = some (.ref A.c_NoSuchPlace)
  e_NoSuchText : mg "NoSuchText" = some (.ref A.c_NoSuchText)
  e_Fault : mg "Fault" = some (.ref A.c_Fault)
  ex_Fault : ∃ fI, PySem.OeX.ErrC K A.c_Fault fI
  nf_Fault_kind : PySem.W.findIn K (.ref A.c_Fault) "kind" = some none
  nf_Fault_place : PySem.W.findIn K (.ref A.c_Fault) "place" = some none
  e_NotLedBack : mg "NotLedBack" = some (.ref A.c_NotLedBack)
  xm_NoOutput_NoOutput : PySem.W.exmOne K (.ref A.c_NoOutput) (.ref A.c_NoOutput) = some true
  xm_NoOutput_NoSuchText : PySem.W.exmOne K (.ref A.c_NoOutput) (.ref A.c_NoSuchText) = some false
  xm_NoOutput_NoSuchPlace : PySem.W.exmOne K (.ref A.c_NoOutput) (.ref A.c_NoSuchPlace) = some false
  xm_NoOutput_NoPart : PySem.W.exmOne K (.ref A.c_NoOutput) (.ref A.c_NoPart) = some false
  xm_NoOutput_NotLedBack : PySem.W.exmOne K (.ref A.c_NoOutput) (.ref A.c_NotLedBack) = some false
  xm_NoSuchText_NoOutput : PySem.W.exmOne K (.ref A.c_NoSuchText) (.ref A.c_NoOutput) = some false
  xm_NoSuchText_NoSuchText : PySem.W.exmOne K (.ref A.c_NoSuchText) (.ref A.c_NoSuchText) = some true
  xm_NoSuchText_NoSuchPlace : PySem.W.exmOne K (.ref A.c_NoSuchText) (.ref A.c_NoSuchPlace) = some false
  xm_NoSuchText_NoPart : PySem.W.exmOne K (.ref A.c_NoSuchText) (.ref A.c_NoPart) = some false
  xm_NoSuchText_NotLedBack : PySem.W.exmOne K (.ref A.c_NoSuchText) (.ref A.c_NotLedBack) = some false
  xm_NoSuchPlace_NoOutput : PySem.W.exmOne K (.ref A.c_NoSuchPlace) (.ref A.c_NoOutput) = some false
  xm_NoSuchPlace_NoSuchText : PySem.W.exmOne K (.ref A.c_NoSuchPlace) (.ref A.c_NoSuchText) = some false
  xm_NoSuchPlace_NoSuchPlace : PySem.W.exmOne K (.ref A.c_NoSuchPlace) (.ref A.c_NoSuchPlace) = some true
  xm_NoSuchPlace_NoPart : PySem.W.exmOne K (.ref A.c_NoSuchPlace) (.ref A.c_NoPart) = some false
  xm_NoSuchPlace_NotLedBack : PySem.W.exmOne K (.ref A.c_NoSuchPlace) (.ref A.c_NotLedBack) = some false
  xm_NoPart_NoOutput : PySem.W.exmOne K (.ref A.c_NoPart) (.ref A.c_NoOutput) = some false
  xm_NoPart_NoSuchText : PySem.W.exmOne K (.ref A.c_NoPart) (.ref A.c_NoSuchText) = some false
  xm_NoPart_NoSuchPlace : PySem.W.exmOne K (.ref A.c_NoPart) (.ref A.c_NoSuchPlace) = some false
  xm_NoPart_NoPart : PySem.W.exmOne K (.ref A.c_NoPart) (.ref A.c_NoPart) = some true
  xm_NoPart_NotLedBack : PySem.W.exmOne K (.ref A.c_NoPart) (.ref A.c_NotLedBack) = some false
  xm_NotLedBack_NoOutput : PySem.W.exmOne K (.ref A.c_NotLedBack) (.ref A.c_NoOutput) = some false
  xm_NotLedBack_NoSuchText : PySem.W.exmOne K (.ref A.c_NotLedBack) (.ref A.c_NoSuchText) = some false
  xm_NotLedBack_NoSuchPlace : PySem.W.exmOne K (.ref A.c_NotLedBack) (.ref A.c_NoSuchPlace) = some false
  xm_NotLedBack_NoPart : PySem.W.exmOne K (.ref A.c_NotLedBack) (.ref A.c_NoPart) = some false
  xm_NotLedBack_NotLedBack : PySem.W.exmOne K (.ref A.c_NotLedBack) (.ref A.c_NotLedBack) = some true
  b_len : mg "len" = none
  b_ord : mg "ord" = none
  b_list : mg "list" = none
  b_range : mg "range" = none
  b_enumerate : mg "enumerate" = none
  b_all : mg "all" = none
  b_min : mg "min" = none
section
variable {K : PySem.W.Frag} {mg : Str → Option Value} {A : Ads} {H : Hp} {Q : VK} {D : Ends} {σ : L2.St} {a dx : Addr} {y : V}
theorem g_Call_kind (T : Fx K mg A) {x0 x1 x2 : V} (h : H a = some (.ins A.c_Call dx (fs_Call x0 x1 x2))) (q : Q x0 H) : IsFld K "kind" (.ref a) H Q := w_get h T.cl_Call T.n_Call_kind lk_Call_kind q
theorem p_Call_kind (T : Fx K mg A) {N : Hp → Prop} {x0 x1 x2 : V} (h : H a = some (.ins A.c_Call dx (fs_Call x0 x1 x2))) (q : N (upd H a (.ins A.c_Call dx (fs_Call y x1 x2)))) : IsPut K "kind" y (.ref a) H N :=
  w_put h T.cl_Call T.n_Call_kind ln_Call pt_Call_kind q
theorem g_Call_numbers (T : Fx K mg A) {x0 x1 x2 : V} (h : H a = some (.ins A.c_Call dx (fs_Call x0 x1 x2))) (q : Q x1 H) : IsFld K "numbers" (.ref a) H Q := w_get h T.cl_Call T.n_Call_numbers lk_Call_numbers q
theorem p_Call_numbers (T : Fx K mg A) {N : Hp → Prop} {x0 x1 x2 : V} (h : H a = some (.ins A.c_Call dx (fs_Call x0 x1 x2))) (q : N (upd H a (.ins A.c_Call dx (fs_Call x0 y x2)))) : IsPut K "numbers" y (.ref a) H N :=
  w_put h T.cl_Call T.n_Call_numbers ln_Call pt_Call_numbers q
theorem g_Call_row (T : Fx K mg A) {x0 x1 x2 : V} (h : H a = some (.ins A.c_Call dx (fs_Call x0 x1 x2))) (q : Q x2 H) : IsFld K "row" (.ref a) H Q := w_get h T.cl_Call T.n_Call_row lk_Call_row q
theorem p_Call_row (T : Fx K mg A) {N : Hp → Prop} {x0 x1 x2 : V} (h : H a = some (.ins A.c_Call dx (fs_Call x0 x1 x2))) (q : N (upd H a (.ins A.c_Call dx (fs_Call x0 x1 y)))) : IsPut K "row" y (.ref a) H N :=
  w_put h T.cl_Call T.n_Call_row ln_Call pt_Call_row q
theorem g_Given_text (T : Fx K mg A) {x0 x1 x2 : V} (h : H a = some (.ins A.c_Given dx (fs_Given x0 x1 x2))) (q : Q x0 H) : IsFld K "text" (.ref a) H Q := w_get h T.cl_Given T.n_Given_text lk_Given_text q
theorem p_Given_text (T : Fx K mg A) {N : Hp → Prop} {x0 x1 x2 : V} (h : H a = some (.ins A.c_Given dx (fs_Given x0 x1 x2))) (q : N (upd H a (.ins A.c_Given dx (fs_Given y x1 x2)))) : IsPut K "text" y (.ref a) H N :=
  w_put h T.cl_Given T.n_Given_text ln_Given pt_Given_text q
theorem g_Given_field (T : Fx K mg A) {x0 x1 x2 : V} (h : H a = some (.ins A.c_Given dx (fs_Given x0 x1 x2))) (q : Q x1 H) : IsFld K "field" (.ref a) H Q := w_get h T.cl_Given T.n_Given_field lk_Given_field q
theorem p_Given_field (T : Fx K mg A) {N : Hp → Prop} {x0 x1 x2 : V} (h : H a = some (.ins A.c_Given dx (fs_Given x0 x1 x2))) (q : N (upd H a (.ins A.c_Given dx (fs_Given x0 y x2)))) : IsPut K "field" y (.ref a) H N :=
  w_put h T.cl_Given T.n_Given_field ln_Given pt_Given_field q
theorem g_Given_start (T : Fx K mg A) {x0 x1 x2 : V} (h : H a = some (.ins A.c_Given dx (fs_Given x0 x1 x2))) (q : Q x2 H) : IsFld K "start" (.ref a) H Q := w_get h T.cl_Given T.n_Given_start lk_Given_start q
theorem p_Given_start (T : Fx K mg A) {N : Hp → Prop} {x0 x1 x2 : V} (h : H a = some (.ins A.c_Given dx (fs_Given x0 x1 x2))) (q : N (upd H a (.ins A.c_Given dx (fs_Given x0 x1 y)))) : IsPut K "start" y (.ref a) H N :=
  w_put h T.cl_Given T.n_Given_start ln_Given pt_Given_start q
theorem g_Constant_text (T : Fx K mg A) {x0 : V} (h : H a = some (.ins A.c_Constant dx (fs_Constant x0))) (q : Q x0 H) : IsFld K "text" (.ref a) H Q := w_get h T.cl_Constant T.n_Constant_text lk_Constant_text q
theorem p_Constant_text (T : Fx K mg A) {N : Hp → Prop} {x0 : V} (h : H a = some (.ins A.c_Constant dx (fs_Constant x0))) (q : N (upd H a (.ins A.c_Constant dx (fs_Constant y)))) : IsPut K "text" y (.ref a) H N :=
  w_put h T.cl_Constant T.n_Constant_text ln_Constant pt_Constant_text q
theorem g_Part_field (T : Fx K mg A) {x0 x1 x2 x3 : V} (h : H a = some (.ins A.c_Part dx (fs_Part x0 x1 x2 x3))) (q : Q x0 H) : IsFld K "field" (.ref a) H Q := w_get h T.cl_Part T.n_Part_field lk_Part_field q
theorem p_Part_field (T : Fx K mg A) {N : Hp → Prop} {x0 x1 x2 x3 : V} (h : H a = some (.ins A.c_Part dx (fs_Part x0 x1 x2 x3))) (q : N (upd H a (.ins A.c_Part dx (fs_Part y x1 x2 x3)))) : IsPut K "field" y (.ref a) H N :=
  w_put h T.cl_Part T.n_Part_field ln_Part pt_Part_field q
theorem g_Part_first (T : Fx K mg A) {x0 x1 x2 x3 : V} (h : H a = some (.ins A.c_Part dx (fs_Part x0 x1 x2 x3))) (q : Q x1 H) : IsFld K "first" (.ref a) H Q := w_get h T.cl_Part T.n_Part_first lk_Part_first q
theorem p_Part_first (T : Fx K mg A) {N : Hp → Prop} {x0 x1 x2 x3 : V} (h : H a = some (.ins A.c_Part dx (fs_Part x0 x1 x2 x3))) (q : N (upd H a (.ins A.c_Part dx (fs_Part x0 y x2 x3)))) : IsPut K "first" y (.ref a) H N :=
  w_put h T.cl_Part T.n_Part_first ln_Part pt_Part_first q
theorem g_Part_last (T : Fx K mg A) {x0 x1 x2 x3 : V} (h : H a = some (.ins A.c_Part dx (fs_Part x0 x1 x2 x3))) (q : Q x2 H) : IsFld K "last" (.ref a) H Q := w_get h T.cl_Part T.n_Part_last lk_Part_last q
theorem p_Part_last (T : Fx K mg A) {N : Hp → Prop} {x0 x1 x2 x3 : V} (h : H a = some (.ins A.c_Part dx (fs_Part x0 x1 x2 x3))) (q : N (upd H a (.ins A.c_Part dx (fs_Part x0 x1 y x3)))) : IsPut K "last" y (.ref a) H N :=
  w_put h T.cl_Part T.n_Part_last ln_Part pt_Part_last q
theorem g_Part_turn (T : Fx K mg A) {x0 x1 x2 x3 : V} (h : H a = some (.ins A.c_Part dx (fs_Part x0 x1 x2 x3))) (q : Q x3 H) : IsFld K "turn" (.ref a) H Q := w_get h T.cl_Part T.n_Part_turn lk_Part_turn q
theorem p_Part_turn (T : Fx K mg A) {N : Hp → Prop} {x0 x1 x2 x3 : V} (h : H a = some (.ins A.c_Part dx (fs_Part x0 x1 x2 x3))) (q : N (upd H a (.ins A.c_Part dx (fs_Part x0 x1 x2 y)))) : IsPut K "turn" y (.ref a) H N :=
  w_put h T.cl_Part T.n_Part_turn ln_Part pt_Part_turn q
theorem g_Edit_start (T : Fx K mg A) {x0 x1 x2 : V} (h : H a = some (.ins A.c_Edit dx (fs_Edit x0 x1 x2))) (q : Q x0 H) : IsFld K "start" (.ref a) H Q := w_get h T.cl_Edit T.n_Edit_start lk_Edit_start q
theorem p_Edit_start (T : Fx K mg A) {N : Hp → Prop} {x0 x1 x2 : V} (h : H a = some (.ins A.c_Edit dx (fs_Edit x0 x1 x2))) (q : N (upd H a (.ins A.c_Edit dx (fs_Edit y x1 x2)))) : IsPut K "start" y (.ref a) H N :=
  w_put h T.cl_Edit T.n_Edit_start ln_Edit pt_Edit_start q
theorem g_Edit_end (T : Fx K mg A) {x0 x1 x2 : V} (h : H a = some (.ins A.c_Edit dx (fs_Edit x0 x1 x2))) (q : Q x1 H) : IsFld K "end" (.ref a) H Q := w_get h T.cl_Edit T.n_Edit_end lk_Edit_end q
theorem p_Edit_end (T : Fx K mg A) {N : Hp → Prop} {x0 x1 x2 : V} (h : H a = some (.ins A.c_Edit dx (fs_Edit x0 x1 x2))) (q : N (upd H a (.ins A.c_Edit dx (fs_Edit x0 y x2)))) : IsPut K "end" y (.ref a) H N :=
  w_put h T.cl_Edit T.n_Edit_end ln_Edit pt_Edit_end q
theorem g_Edit_text (T : Fx K mg A) {x0 x1 x2 : V} (h : H a = some (.ins A.c_Edit dx (fs_Edit x0 x1 x2))) (q : Q x2 H) : IsFld K "text" (.ref a) H Q := w_get h T.cl_Edit T.n_Edit_text lk_Edit_text q
theorem p_Edit_text (T : Fx K mg A) {N : Hp → Prop} {x0 x1 x2 : V} (h : H a = some (.ins A.c_Edit dx (fs_Edit x0 x1 x2))) (q : N (upd H a (.ins A.c_Edit dx (fs_Edit x0 x1 y)))) : IsPut K "text" y (.ref a) H N :=
  w_put h T.cl_Edit T.n_Edit_text ln_Edit pt_Edit_text q
theorem g_Shown_program (T : Fx K mg A) {x0 x1 x2 x3 : V} (h : H a = some (.ins A.c_Shown dx (fs_Shown x0 x1 x2 x3))) (q : Q x0 H) : IsFld K "program" (.ref a) H Q := w_get h T.cl_Shown T.n_Shown_program lk_Shown_program q
theorem p_Shown_program (T : Fx K mg A) {N : Hp → Prop} {x0 x1 x2 x3 : V} (h : H a = some (.ins A.c_Shown dx (fs_Shown x0 x1 x2 x3))) (q : N (upd H a (.ins A.c_Shown dx (fs_Shown y x1 x2 x3)))) : IsPut K "program" y (.ref a) H N :=
  w_put h T.cl_Shown T.n_Shown_program ln_Shown pt_Shown_program q
theorem g_Shown_record (T : Fx K mg A) {x0 x1 x2 x3 : V} (h : H a = some (.ins A.c_Shown dx (fs_Shown x0 x1 x2 x3))) (q : Q x1 H) : IsFld K "record" (.ref a) H Q := w_get h T.cl_Shown T.n_Shown_record lk_Shown_record q
theorem p_Shown_record (T : Fx K mg A) {N : Hp → Prop} {x0 x1 x2 x3 : V} (h : H a = some (.ins A.c_Shown dx (fs_Shown x0 x1 x2 x3))) (q : N (upd H a (.ins A.c_Shown dx (fs_Shown x0 y x2 x3)))) : IsPut K "record" y (.ref a) H N :=
  w_put h T.cl_Shown T.n_Shown_record ln_Shown pt_Shown_record q
theorem g_Shown_givens (T : Fx K mg A) {x0 x1 x2 x3 : V} (h : H a = some (.ins A.c_Shown dx (fs_Shown x0 x1 x2 x3))) (q : Q x2 H) : IsFld K "givens" (.ref a) H Q := w_get h T.cl_Shown T.n_Shown_givens lk_Shown_givens q
theorem p_Shown_givens (T : Fx K mg A) {N : Hp → Prop} {x0 x1 x2 x3 : V} (h : H a = some (.ins A.c_Shown dx (fs_Shown x0 x1 x2 x3))) (q : N (upd H a (.ins A.c_Shown dx (fs_Shown x0 x1 y x3)))) : IsPut K "givens" y (.ref a) H N :=
  w_put h T.cl_Shown T.n_Shown_givens ln_Shown pt_Shown_givens q
theorem g_Shown_output (T : Fx K mg A) {x0 x1 x2 x3 : V} (h : H a = some (.ins A.c_Shown dx (fs_Shown x0 x1 x2 x3))) (q : Q x3 H) : IsFld K "output" (.ref a) H Q := w_get h T.cl_Shown T.n_Shown_output lk_Shown_output q
theorem p_Shown_output (T : Fx K mg A) {N : Hp → Prop} {x0 x1 x2 x3 : V} (h : H a = some (.ins A.c_Shown dx (fs_Shown x0 x1 x2 x3))) (q : N (upd H a (.ins A.c_Shown dx (fs_Shown x0 x1 x2 y)))) : IsPut K "output" y (.ref a) H N :=
  w_put h T.cl_Shown T.n_Shown_output ln_Shown pt_Shown_output q
theorem g_FromStart_distance (T : Fx K mg A) {x0 : V} (h : H a = some (.ins A.c_FromStart dx (fs_FromStart x0))) (q : Q x0 H) : IsFld K "distance" (.ref a) H Q := w_get h T.cl_FromStart T.n_FromStart_distance lk_FromStart_distance q
theorem p_FromStart_distance (T : Fx K mg A) {N : Hp → Prop} {x0 : V} (h : H a = some (.ins A.c_FromStart dx (fs_FromStart x0))) (q : N (upd H a (.ins A.c_FromStart dx (fs_FromStart y)))) : IsPut K "distance" y (.ref a) H N :=
  w_put h T.cl_FromStart T.n_FromStart_distance ln_FromStart pt_FromStart_distance q
theorem g_FromEnd_distance (T : Fx K mg A) {x0 : V} (h : H a = some (.ins A.c_FromEnd dx (fs_FromEnd x0))) (q : Q x0 H) : IsFld K "distance" (.ref a) H Q := w_get h T.cl_FromEnd T.n_FromEnd_distance lk_FromEnd_distance q
theorem p_FromEnd_distance (T : Fx K mg A) {N : Hp → Prop} {x0 : V} (h : H a = some (.ins A.c_FromEnd dx (fs_FromEnd x0))) (q : N (upd H a (.ins A.c_FromEnd dx (fs_FromEnd y)))) : IsPut K "distance" y (.ref a) H N :=
  w_put h T.cl_FromEnd T.n_FromEnd_distance ln_FromEnd pt_FromEnd_distance q
theorem g_Border_left (T : Fx K mg A) {x0 x1 x2 x3 : V} (h : H a = some (.ins A.c_Border dx (fs_Border x0 x1 x2 x3))) (q : Q x0 H) : IsFld K "left" (.ref a) H Q := w_get h T.cl_Border T.n_Border_left lk_Border_left q
theorem p_Border_left (T : Fx K mg A) {N : Hp → Prop} {x0 x1 x2 x3 : V} (h : H a = some (.ins A.c_Border dx (fs_Border x0 x1 x2 x3))) (q : N (upd H a (.ins A.c_Border dx (fs_Border y x1 x2 x3)))) : IsPut K "left" y (.ref a) H N :=
  w_put h T.cl_Border T.n_Border_left ln_Border pt_Border_left q
theorem g_Border_right (T : Fx K mg A) {x0 x1 x2 x3 : V} (h : H a = some (.ins A.c_Border dx (fs_Border x0 x1 x2 x3))) (q : Q x1 H) : IsFld K "right" (.ref a) H Q := w_get h T.cl_Border T.n_Border_right lk_Border_right q
theorem p_Border_right (T : Fx K mg A) {N : Hp → Prop} {x0 x1 x2 x3 : V} (h : H a = some (.ins A.c_Border dx (fs_Border x0 x1 x2 x3))) (q : N (upd H a (.ins A.c_Border dx (fs_Border x0 y x2 x3)))) : IsPut K "right" y (.ref a) H N :=
  w_put h T.cl_Border T.n_Border_right ln_Border pt_Border_right q
theorem g_Border_nth (T : Fx K mg A) {x0 x1 x2 x3 : V} (h : H a = some (.ins A.c_Border dx (fs_Border x0 x1 x2 x3))) (q : Q x2 H) : IsFld K "nth" (.ref a) H Q := w_get h T.cl_Border T.n_Border_nth lk_Border_nth q
theorem p_Border_nth (T : Fx K mg A) {N : Hp → Prop} {x0 x1 x2 x3 : V} (h : H a = some (.ins A.c_Border dx (fs_Border x0 x1 x2 x3))) (q : N (upd H a (.ins A.c_Border dx (fs_Border x0 x1 y x3)))) : IsPut K "nth" y (.ref a) H N :=
  w_put h T.cl_Border T.n_Border_nth ln_Border pt_Border_nth q
theorem g_Border_from_right (T : Fx K mg A) {x0 x1 x2 x3 : V} (h : H a = some (.ins A.c_Border dx (fs_Border x0 x1 x2 x3))) (q : Q x3 H) : IsFld K "from_right" (.ref a) H Q := w_get h T.cl_Border T.n_Border_from_right lk_Border_from_right q
theorem p_Border_from_right (T : Fx K mg A) {N : Hp → Prop} {x0 x1 x2 x3 : V} (h : H a = some (.ins A.c_Border dx (fs_Border x0 x1 x2 x3))) (q : N (upd H a (.ins A.c_Border dx (fs_Border x0 x1 x2 y)))) : IsPut K "from_right" y (.ref a) H N :=
  w_put h T.cl_Border T.n_Border_from_right ln_Border pt_Border_from_right q
theorem g_Reader_text (T : Fx K mg A) {x0 x1 : V} (h : H a = some (.ins A.c_Reader dx (fs_Reader x0 x1))) (q : Q x0 H) : IsFld K "text" (.ref a) H Q := w_get h T.cl_Reader T.n_Reader_text lk_Reader_text q
theorem p_Reader_text (T : Fx K mg A) {N : Hp → Prop} {x0 x1 : V} (h : H a = some (.ins A.c_Reader dx (fs_Reader x0 x1))) (q : N (upd H a (.ins A.c_Reader dx (fs_Reader y x1)))) : IsPut K "text" y (.ref a) H N :=
  w_put h T.cl_Reader T.n_Reader_text ln_Reader pt_Reader_text q
theorem g_Reader_place (T : Fx K mg A) {x0 x1 : V} (h : H a = some (.ins A.c_Reader dx (fs_Reader x0 x1))) (q : Q x1 H) : IsFld K "place" (.ref a) H Q := w_get h T.cl_Reader T.n_Reader_place lk_Reader_place q
theorem p_Reader_place (T : Fx K mg A) {N : Hp → Prop} {x0 x1 : V} (h : H a = some (.ins A.c_Reader dx (fs_Reader x0 x1))) (q : N (upd H a (.ins A.c_Reader dx (fs_Reader x0 y)))) : IsPut K "place" y (.ref a) H N :=
  w_put h T.cl_Reader T.n_Reader_place ln_Reader pt_Reader_place q
theorem g_Desk_program (T : Fx K mg A) {x0 x1 x2 : V} (h : H a = some (.ins A.c_Desk dx (fs_Desk x0 x1 x2))) (q : Q x0 H) : IsFld K "program" (.ref a) H Q := w_get h T.cl_Desk T.n_Desk_program lk_Desk_program q
theorem p_Desk_program (T : Fx K mg A) {N : Hp → Prop} {x0 x1 x2 : V} (h : H a = some (.ins A.c_Desk dx (fs_Desk x0 x1 x2))) (q : N (upd H a (.ins A.c_Desk dx (fs_Desk y x1 x2)))) : IsPut K "program" y (.ref a) H N :=
  w_put h T.cl_Desk T.n_Desk_program ln_Desk pt_Desk_program q
theorem g_Desk_record (T : Fx K mg A) {x0 x1 x2 : V} (h : H a = some (.ins A.c_Desk dx (fs_Desk x0 x1 x2))) (q : Q x1 H) : IsFld K "record" (.ref a) H Q := w_get h T.cl_Desk T.n_Desk_record lk_Desk_record q
theorem p_Desk_record (T : Fx K mg A) {N : Hp → Prop} {x0 x1 x2 : V} (h : H a = some (.ins A.c_Desk dx (fs_Desk x0 x1 x2))) (q : N (upd H a (.ins A.c_Desk dx (fs_Desk x0 y x2)))) : IsPut K "record" y (.ref a) H N :=
  w_put h T.cl_Desk T.n_Desk_record ln_Desk pt_Desk_record q
theorem g_Desk_past (T : Fx K mg A) {x0 x1 x2 : V} (h : H a = some (.ins A.c_Desk dx (fs_Desk x0 x1 x2))) (q : Q x2 H) : IsFld K "past" (.ref a) H Q := w_get h T.cl_Desk T.n_Desk_past lk_Desk_past q
theorem p_Desk_past (T : Fx K mg A) {N : Hp → Prop} {x0 x1 x2 : V} (h : H a = some (.ins A.c_Desk dx (fs_Desk x0 x1 x2))) (q : N (upd H a (.ins A.c_Desk dx (fs_Desk x0 x1 y)))) : IsPut K "past" y (.ref a) H N :=
  w_put h T.cl_Desk T.n_Desk_past ln_Desk pt_Desk_past q
end
theorem sc_Call_init : FnScope ["self", "kind", "numbers", "row"] ["self", "kind", "numbers", "row"] (defScope s_Call_init) := ⟨rfl, rfl, rfl, by decide +kernel, rfl, by decide +kernel, by decide +kernel⟩
theorem sc_split_calls : FnScope ["calls", "found", "place", "kind", "shape", "begin", "numbers", "row"] ["calls"] (defScope s_split_calls) := ⟨rfl, rfl, rfl, by decide +kernel, rfl, by decide +kernel, by decide +kernel⟩
theorem sc_Given_init : FnScope ["self", "text", "field", "start"] ["self", "text", "field", "start"] (defScope s_Given_init) := ⟨rfl, rfl, rfl, by decide +kernel, rfl, by decide +kernel, by decide +kernel⟩
theorem sc_Given_source : FnScope ["self", "k"] ["self", "k"] (defScope s_Given_source) := ⟨rfl, rfl, rfl, by decide +kernel, rfl, by decide +kernel, by decide +kernel⟩
theorem sc_Constant_init : FnScope ["self", "text"] ["self", "text"] (defScope s_Constant_init) := ⟨rfl, rfl, rfl, by decide +kernel, rfl, by decide +kernel, by decide +kernel⟩
theorem sc_Constant_given_on : FnScope ["self", "record"] ["self", "record"] (defScope s_Constant_given_on) := ⟨rfl, rfl, rfl, by decide +kernel, rfl, by decide +kernel, by decide +kernel⟩
theorem sc_Part_init : FnScope ["self", "field", "first", "last", "turn"] ["self", "field", "first", "last", "turn"] (defScope s_Part_init) := ⟨rfl, rfl, rfl, by decide +kernel, rfl, by decide +kernel, by decide +kernel⟩
theorem sc_Part_given_on : FnScope ["self", "record", "text", "start", "end"] ["self", "record"] (defScope s_Part_given_on) := ⟨rfl, rfl, rfl, by decide +kernel, rfl, by decide +kernel, by decide +kernel⟩
theorem sc_capital : FnScope ["byte"] ["byte"] (defScope s_capital) := ⟨rfl, rfl, rfl, by decide +kernel, rfl, by decide +kernel, by decide +kernel⟩
theorem sc_small : FnScope ["byte"] ["byte"] (defScope s_small) := ⟨rfl, rfl, rfl, by decide +kernel, rfl, by decide +kernel, by decide +kernel⟩
theorem sc_turned : FnScope ["text", "turn", "byte"] ["text", "turn"] (defScope s_turned) := ⟨rfl, rfl, rfl, by decide +kernel, rfl, by decide +kernel, by decide +kernel⟩
theorem sc_all_given : FnScope ["program", "record", "found", "number", "piece", "given"] ["program", "record"] (defScope s_all_given) := ⟨rfl, rfl, rfl, by decide +kernel, rfl, by decide +kernel, by decide +kernel⟩
theorem sc_joined : FnScope ["givens", "text", "given"] ["givens"] (defScope s_joined) := ⟨rfl, rfl, rfl, by decide +kernel, rfl, by decide +kernel, by decide +kernel⟩
theorem sc_is_plain : FnScope ["text", "longest", "byte"] ["text", "longest"] (defScope s_is_plain) := ⟨rfl, rfl, rfl, by decide +kernel, rfl, by decide +kernel, by decide +kernel⟩
theorem sc_is_field : FnScope ["text"] ["text"] (defScope s_is_field) := ⟨rfl, rfl, rfl, by decide +kernel, rfl, by decide +kernel, by decide +kernel⟩
theorem sc_is_record : FnScope ["texts", "text"] ["texts"] (defScope s_is_record) := ⟨rfl, rfl, rfl, by decide +kernel, rfl, by decide +kernel, by decide +kernel⟩
theorem sc_split_texts : FnScope ["numbers", "texts", "place", "begin"] ["numbers"] (defScope s_split_texts) := ⟨rfl, rfl, rfl, by decide +kernel, rfl, by decide +kernel, by decide +kernel⟩
theorem sc_told_record : FnScope ["record", "told", "field"] ["record"] (defScope s_told_record) := ⟨rfl, rfl, rfl, by decide +kernel, rfl, by decide +kernel, by decide +kernel⟩
theorem sc_Edit_init : FnScope ["self", "start", "end", "text"] ["self", "start", "end", "text"] (defScope s_Edit_init) := ⟨rfl, rfl, rfl, by decide +kernel, rfl, by decide +kernel, by decide +kernel⟩
theorem sc_Shown_init : FnScope ["self", "program", "record"] ["self", "program", "record"] (defScope s_Shown_init) := ⟨rfl, rfl, rfl, by decide +kernel, rfl, by decide +kernel, by decide +kernel⟩
theorem sc_need_text : FnScope ["text"] ["text"] (defScope s_need_text) := ⟨rfl, rfl, rfl, by decide +kernel, rfl, by decide +kernel, by decide +kernel⟩
theorem sc_common_beginning : FnScope ["left", "right", "most", "count"] ["left", "right"] (defScope s_common_beginning) := ⟨rfl, rfl, rfl, by decide +kernel, rfl, by decide +kernel, by decide +kernel⟩
theorem sc_common_end : FnScope ["left", "right", "first", "most", "count"] ["left", "right", "first"] (defScope s_common_end) := ⟨rfl, rfl, rfl, by decide +kernel, rfl, by decide +kernel, by decide +kernel⟩
theorem sc_narrowed : FnScope ["output", "edit", "old", "first", "final"] ["output", "edit"] (defScope s_narrowed) := ⟨rfl, rfl, rfl, by decide +kernel, rfl, by decide +kernel, by decide +kernel⟩
theorem sc_holders : FnScope ["shown", "edit", "found", "begin", "given", "end"] ["shown", "edit"] (defScope s_holders) := ⟨rfl, rfl, rfl, by decide +kernel, rfl, by decide +kernel, by decide +kernel⟩
theorem sc_changed_record : FnScope ["record", "given", "begin", "edit", "field", "start", "end", "changed"] ["record", "given", "begin", "edit"] (defScope s_changed_record) := ⟨rfl, rfl, rfl, by decide +kernel, rfl, by decide +kernel, by decide +kernel⟩
theorem sc_gives : FnScope ["program", "record", "wanted"] ["program", "record", "wanted"] (defScope s_gives) := ⟨rfl, rfl, rfl, by decide +kernel, rfl, by decide +kernel, by decide +kernel⟩
theorem sc_led_back : FnScope ["shown", "edit", "output", "parts", "wanted", "narrow", "given", "begin", "record"] ["shown", "edit"] (defScope s_led_back) := ⟨rfl, rfl, rfl, by decide +kernel, rfl, by decide +kernel, by decide +kernel⟩
theorem sc_is_led_back : FnScope ["shown", "edit"] ["shown", "edit"] (defScope s_is_led_back) := ⟨rfl, rfl, rfl, by decide +kernel, rfl, by decide +kernel, by decide +kernel⟩
theorem sc_whole_edit : FnScope ["shown", "text"] ["shown", "text"] (defScope s_whole_edit) := ⟨rfl, rfl, rfl, by decide +kernel, rfl, by decide +kernel, by decide +kernel⟩
theorem sc_free_bytes : FnScope ["shown", "place", "found", "byte"] ["shown", "place"] (defScope s_free_bytes) := ⟨rfl, rfl, rfl, by decide +kernel, rfl, by decide +kernel, by decide +kernel⟩
theorem sc_in_spans : FnScope ["byte", "spans", "low", "high"] ["byte", "spans"] (defScope s_in_spans) := ⟨rfl, rfl, rfl, by decide +kernel, rfl, by decide +kernel, by decide +kernel⟩
theorem sc_is_letter_or_digit : FnScope ["byte"] ["byte"] (defScope s_is_letter_or_digit) := ⟨rfl, rfl, rfl, by decide +kernel, rfl, by decide +kernel, by decide +kernel⟩
theorem sc_stands_behind : FnScope ["text", "place", "spans"] ["text", "place", "spans"] (defScope s_stands_behind) := ⟨rfl, rfl, rfl, by decide +kernel, rfl, by decide +kernel, by decide +kernel⟩
theorem sc_begins : FnScope ["text", "place", "spans"] ["text", "place", "spans"] (defScope s_begins) := ⟨rfl, rfl, rfl, by decide +kernel, rfl, by decide +kernel, by decide +kernel⟩
theorem sc_ends : FnScope ["text", "place", "spans"] ["text", "place", "spans"] (defScope s_ends) := ⟨rfl, rfl, rfl, by decide +kernel, rfl, by decide +kernel, by decide +kernel⟩
theorem sc_borders : FnScope ["text", "left", "right", "found", "place"] ["text", "left", "right"] (defScope s_borders) := ⟨rfl, rfl, rfl, by decide +kernel, rfl, by decide +kernel, by decide +kernel⟩
theorem sc_FromStart_init : FnScope ["self", "distance"] ["self", "distance"] (defScope s_FromStart_init) := ⟨rfl, rfl, rfl, by decide +kernel, rfl, by decide +kernel, by decide +kernel⟩
theorem sc_FromStart_place_in : FnScope ["self", "text"] ["self", "text"] (defScope s_FromStart_place_in) := ⟨rfl, rfl, rfl, by decide +kernel, rfl, by decide +kernel, by decide +kernel⟩
theorem sc_FromEnd_init : FnScope ["self", "distance"] ["self", "distance"] (defScope s_FromEnd_init) := ⟨rfl, rfl, rfl, by decide +kernel, rfl, by decide +kernel, by decide +kernel⟩
theorem sc_FromEnd_place_in : FnScope ["self", "text"] ["self", "text"] (defScope s_FromEnd_place_in) := ⟨rfl, rfl, rfl, by decide +kernel, rfl, by decide +kernel, by decide +kernel⟩
theorem sc_Border_init : FnScope ["self", "left", "right", "nth", "from_right"] ["self", "left", "right", "nth", "from_right"] (defScope s_Border_init) := ⟨rfl, rfl, rfl, by decide +kernel, rfl, by decide +kernel, by decide +kernel⟩
theorem sc_Border_place_in : FnScope ["self", "text", "places"] ["self", "text"] (defScope s_Border_place_in) := ⟨rfl, rfl, rfl, by decide +kernel, rfl, by decide +kernel, by decide +kernel⟩
theorem sc_Reader_init : FnScope ["self", "text"] ["self", "text"] (defScope s_Reader_init) := ⟨rfl, rfl, rfl, by decide +kernel, rfl, by decide +kernel, by decide +kernel⟩
theorem sc_Reader_stands_within : FnScope ["self", "low", "high"] ["self", "low", "high"] (defScope s_Reader_stands_within) := ⟨rfl, rfl, rfl, by decide +kernel, rfl, by decide +kernel, by decide +kernel⟩
theorem sc_Reader_stands : FnScope ["self", "sign"] ["self", "sign"] (defScope s_Reader_stands) := ⟨rfl, rfl, rfl, by decide +kernel, rfl, by decide +kernel, by decide +kernel⟩
theorem sc_Reader_skip : FnScope ["self", "sign"] ["self", "sign"] (defScope s_Reader_skip) := ⟨rfl, rfl, rfl, by decide +kernel, rfl, by decide +kernel, by decide +kernel⟩
theorem sc_Reader_take : FnScope ["self", "low", "high", "byte"] ["self", "low", "high"] (defScope s_Reader_take) := ⟨rfl, rfl, rfl, by decide +kernel, rfl, by decide +kernel, by decide +kernel⟩
theorem sc_Reader_need : FnScope ["self", "sign"] ["self", "sign"] (defScope s_Reader_need) := ⟨rfl, rfl, rfl, by decide +kernel, rfl, by decide +kernel, by decide +kernel⟩
theorem sc_Reader_need_end : FnScope ["self"] ["self"] (defScope s_Reader_need_end) := ⟨rfl, rfl, rfl, by decide +kernel, rfl, by decide +kernel, by decide +kernel⟩
theorem sc_read_program : FnScope ["text", "reader", "pieces"] ["text"] (defScope s_read_program) := ⟨rfl, rfl, rfl, by decide +kernel, rfl, by decide +kernel, by decide +kernel⟩
theorem sc_read_piece : FnScope ["reader"] ["reader"] (defScope s_read_piece) := ⟨rfl, rfl, rfl, by decide +kernel, rfl, by decide +kernel, by decide +kernel⟩
theorem sc_read_constant : FnScope ["reader", "start", "text", "byte"] ["reader"] (defScope s_read_constant) := ⟨rfl, rfl, rfl, by decide +kernel, rfl, by decide +kernel, by decide +kernel⟩
theorem sc_read_part : FnScope ["reader", "field", "first", "last"] ["reader"] (defScope s_read_part) := ⟨rfl, rfl, rfl, by decide +kernel, rfl, by decide +kernel, by decide +kernel⟩
theorem sc_read_turn : FnScope ["reader", "sign"] ["reader"] (defScope s_read_turn) := ⟨rfl, rfl, rfl, by decide +kernel, rfl, by decide +kernel, by decide +kernel⟩
theorem sc_read_position : FnScope ["reader"] ["reader"] (defScope s_read_position) := ⟨rfl, rfl, rfl, by decide +kernel, rfl, by decide +kernel, by decide +kernel⟩
theorem sc_read_border : FnScope ["reader", "start", "left", "right"] ["reader"] (defScope s_read_border) := ⟨rfl, rfl, rfl, by decide +kernel, rfl, by decide +kernel, by decide +kernel⟩
theorem sc_read_class : FnScope ["reader", "sign", "spans"] ["reader"] (defScope s_read_class) := ⟨rfl, rfl, rfl, by decide +kernel, rfl, by decide +kernel, by decide +kernel⟩
theorem sc_read_quoted : FnScope ["reader", "place", "byte"] ["reader"] (defScope s_read_quoted) := ⟨rfl, rfl, rfl, by decide +kernel, rfl, by decide +kernel, by decide +kernel⟩
theorem sc_read_digit : FnScope ["reader"] ["reader"] (defScope s_read_digit) := ⟨rfl, rfl, rfl, by decide +kernel, rfl, by decide +kernel, by decide +kernel⟩
theorem sc_read_number : FnScope ["reader", "low", "high", "start", "digits", "number", "digit"] ["reader", "low", "high"] (defScope s_read_number) := ⟨rfl, rfl, rfl, by decide +kernel, rfl, by decide +kernel, by decide +kernel⟩
theorem sc_Desk_init : FnScope ["self"] ["self"] (defScope s_Desk_init) := ⟨rfl, rfl, rfl, by decide +kernel, rfl, by decide +kernel, by decide +kernel⟩
theorem sc_answer_program : FnScope ["desk", "call", "program", "fault"] ["desk", "call"] (defScope s_answer_program) := ⟨rfl, rfl, rfl, by decide +kernel, rfl, by decide +kernel, by decide +kernel⟩
theorem sc_answer_record : FnScope ["desk", "call", "record"] ["desk", "call"] (defScope s_answer_record) := ⟨rfl, rfl, rfl, by decide +kernel, rfl, by decide +kernel, by decide +kernel⟩
theorem sc_answer_output : FnScope ["desk", "call"] ["desk", "call"] (defScope s_answer_output) := ⟨rfl, rfl, rfl, by decide +kernel, rfl, by decide +kernel, by decide +kernel⟩
theorem sc_answer_fields : FnScope ["desk", "call"] ["desk", "call"] (defScope s_answer_fields) := ⟨rfl, rfl, rfl, by decide +kernel, rfl, by decide +kernel, by decide +kernel⟩
theorem sc_answer_sources : FnScope ["desk", "call", "answered", "given", "k"] ["desk", "call"] (defScope s_answer_sources) := ⟨rfl, rfl, rfl, by decide +kernel, rfl, by decide +kernel, by decide +kernel⟩
theorem sc_answer_piece : FnScope ["desk", "call", "before", "givens", "number", "given"] ["desk", "call"] (defScope s_answer_piece) := ⟨rfl, rfl, rfl, by decide +kernel, rfl, by decide +kernel, by decide +kernel⟩
theorem sc_answer_spread : FnScope ["desk", "call", "field", "place", "givens", "sources", "given", "number", "source", "k"] ["desk", "call"] (defScope s_answer_spread) := ⟨rfl, rfl, rfl, by decide +kernel, rfl, by decide +kernel, by decide +kernel⟩
theorem sc_edited_record : FnScope ["desk", "call", "edit"] ["desk", "call"] (defScope s_edited_record) := ⟨rfl, rfl, rfl, by decide +kernel, rfl, by decide +kernel, by decide +kernel⟩
theorem sc_change_record : FnScope ["desk", "record"] ["desk", "record"] (defScope s_change_record) := ⟨rfl, rfl, rfl, by decide +kernel, rfl, by decide +kernel, by decide +kernel⟩
theorem sc_answer_could : FnScope ["desk", "call"] ["desk", "call"] (defScope s_answer_could) := ⟨rfl, rfl, rfl, by decide +kernel, rfl, by decide +kernel, by decide +kernel⟩
theorem sc_answer_edit : FnScope ["desk", "call"] ["desk", "call"] (defScope s_answer_edit) := ⟨rfl, rfl, rfl, by decide +kernel, rfl, by decide +kernel, by decide +kernel⟩
theorem sc_answer_whole : FnScope ["desk", "call", "shown"] ["desk", "call"] (defScope s_answer_whole) := ⟨rfl, rfl, rfl, by decide +kernel, rfl, by decide +kernel, by decide +kernel⟩
theorem sc_answer_free : FnScope ["desk", "call"] ["desk", "call"] (defScope s_answer_free) := ⟨rfl, rfl, rfl, by decide +kernel, rfl, by decide +kernel, by decide +kernel⟩
theorem sc_answer_undo : FnScope ["desk", "call"] ["desk", "call"] (defScope s_answer_undo) := ⟨rfl, rfl, rfl, by decide +kernel, rfl, by decide +kernel, by decide +kernel⟩
theorem sc_answer_call : FnScope ["desk", "call", "lack"] ["desk", "call"] (defScope s_answer_call) := ⟨rfl, rfl, rfl, by decide +kernel, rfl, by decide +kernel, by decide +kernel⟩
theorem sc_answers : FnScope ["calls", "desk", "found", "call", "answered"] ["calls"] (defScope s_answers) := ⟨rfl, rfl, rfl, by decide +kernel, rfl, by decide +kernel, by decide +kernel⟩
section
variable {P : Program} {w : World} {K : PySem.W.Frag} {mg : Str → Option Value} {base : Heap} {A : Ads}
theorem ok_Call_init {f : Addr} {fd : FuncData} (F : Fun K "__init__" "Call.__init__" s_Call_init f fd) (T : Fx K mg A) : FnOk P w K mg base CX0 1 f fd ["self", "kind", "numbers", "row"] (spNew A.c_Call 3 fo_Call) := by
  refine F.ok sc_Call_init (fun vs H Q E h => ?_) (fun cdv A' outer s H vs Q E hr h => ?_)
  · obtain ⟨p, dx, us, rfl, hn, _⟩ := h
    show us.length + 1 = 4
    rw [hn]
  · obtain ⟨p, dx, us, rfl, hn, hp, q⟩ := h
    match us, hn with
    | [a0, a1, a2], _ =>
      refine ⟨(tSeq (sFld K (tVar 0) (tVar 1) "kind") (tSeq (sFld K (tVar 0) (tVar 2) "numbers") (sFld K (tVar 0) (tVar 3) "row"))), by exact (pss_cons (ps_fld (pv 0) (pv 1) rfl) (pss_cons (ps_fld (pv 0) (pv 2) rfl) (pss_one (ps_fld (pv 0) (pv 3) rfl)))), ?_⟩
      have q2 : Q .non (upd H p (.ins A.c_Call dx [("kind", a0), ("numbers", a1), ("row", a2)])) := by
        have e := q
        simp only [fo_Call, fs_Call] at e
        exact e
      refine w_seq ?_
      refine w_sfld (w_var rfl (w_var rfl ?_))
      refine w_put hp T.cl_Call T.n_Call_kind (by show 0 < 1000; decide) (rfl) ?_
      refine w_seq ?_
      refine w_sfld (w_var rfl (w_var rfl ?_))
      refine w_put upd_same T.cl_Call T.n_Call_numbers (by show 1 < 1000; decide) ((pf_past (by decide +kernel)).trans (cons_eq (rfl))) ?_
      refine w_sfld (w_var rfl (w_var rfl ?_))
      refine w_put upd_same T.cl_Call T.n_Call_row (by show 2 < 1000; decide) ((pf_past (by decide +kernel)).trans (cons_eq ((pf_past (by decide +kernel)).trans (cons_eq (rfl))))) ?_
      simp only [upd_upd]
      exact q2
theorem ok_Given_init {f : Addr} {fd : FuncData} (F : Fun K "__init__" "Given.__init__" s_Given_init f fd) (T : Fx K mg A) : FnOk P w K mg base CX0 1 f fd ["self", "text", "field", "start"] (spNew A.c_Given 3 fo_Given) := by
  refine F.ok sc_Given_init (fun vs H Q E h => ?_) (fun cdv A' outer s H vs Q E hr h => ?_)
  · obtain ⟨p, dx, us, rfl, hn, _⟩ := h
    show us.length + 1 = 4
    rw [hn]
  · obtain ⟨p, dx, us, rfl, hn, hp, q⟩ := h
    match us, hn with
    | [a0, a1, a2], _ =>
      refine ⟨(tSeq (sFld K (tVar 0) (tVar 1) "text") (tSeq (sFld K (tVar 0) (tVar 2) "field") (sFld K (tVar 0) (tVar 3) "start"))), by exact (pss_cons (ps_fld (pv 0) (pv 1) rfl) (pss_cons (ps_fld (pv 0) (pv 2) rfl) (pss_one (ps_fld (pv 0) (pv 3) rfl)))), ?_⟩
      have q2 : Q .non (upd H p (.ins A.c_Given dx [("text", a0), ("field", a1), ("start", a2)])) := by
        have e := q
        simp only [fo_Given, fs_Given] at e
        exact e
      refine w_seq ?_
      refine w_sfld (w_var rfl (w_var rfl ?_))
      refine w_put hp T.cl_Given T.n_Given_text (by show 0 < 1000; decide) (rfl) ?_
      refine w_seq ?_
      refine w_sfld (w_var rfl (w_var rfl ?_))
      refine w_put upd_same T.cl_Given T.n_Given_field (by show 1 < 1000; decide) ((pf_past (by decide +kernel)).trans (cons_eq (rfl))) ?_
      refine w_sfld (w_var rfl (w_var rfl ?_))
      refine w_put upd_same T.cl_Given T.n_Given_start (by show 2 < 1000; decide) ((pf_past (by decide +kernel)).trans (cons_eq ((pf_past (by decide +kernel)).trans (cons_eq (rfl))))) ?_
      simp only [upd_upd]
      exact q2
theorem ok_Constant_init {f : Addr} {fd : FuncData} (F : Fun K "__init__" "Constant.__init__" s_Constant_init f fd) (T : Fx K mg A) : FnOk P w K mg base CX0 1 f fd ["self", "text"] (spNew A.c_Constant 1 fo_Constant) := by
  refine F.ok sc_Constant_init (fun vs H Q E h => ?_) (fun cdv A' outer s H vs Q E hr h => ?_)
  · obtain ⟨p, dx, us, rfl, hn, _⟩ := h
    show us.length + 1 = 2
    rw [hn]
  · obtain ⟨p, dx, us, rfl, hn, hp, q⟩ := h
    match us, hn with
    | [a0], _ =>
      refine ⟨(sFld K (tVar 0) (tVar 1) "text"), by exact (pss_one (ps_fld (pv 0) (pv 1) rfl)), ?_⟩
      have q2 : Q .non (upd H p (.ins A.c_Constant dx [("text", a0)])) := by
        have e := q
        simp only [fo_Constant, fs_Constant] at e
        exact e
      refine w_sfld (w_var rfl (w_var rfl ?_))
      refine w_put hp T.cl_Constant T.n_Constant_text (by show 0 < 1000; decide) (rfl) ?_
      simp only [upd_upd]
      exact q2
theorem ok_Part_init {f : Addr} {fd : FuncData} (F : Fun K "__init__" "Part.__init__" s_Part_init f fd) (T : Fx K mg A) : FnOk P w K mg base CX0 1 f fd ["self", "field", "first", "last", "turn"] (spNew A.c_Part 4 fo_Part) := by
  refine F.ok sc_Part_init (fun vs H Q E h => ?_) (fun cdv A' outer s H vs Q E hr h => ?_)
  · obtain ⟨p, dx, us, rfl, hn, _⟩ := h
    show us.length + 1 = 5
    rw [hn]
  · obtain ⟨p, dx, us, rfl, hn, hp, q⟩ := h
    match us, hn with
    | [a0, a1, a2, a3], _ =>
      refine ⟨(tSeq (sFld K (tVar 0) (tVar 1) "field") (tSeq (sFld K (tVar 0) (tVar 2) "first") (tSeq (sFld K (tVar 0) (tVar 3) "last") (sFld K (tVar 0) (tVar 4) "turn")))), by exact (pss_cons (ps_fld (pv 0) (pv 1) rfl) (pss_cons (ps_fld (pv 0) (pv 2) rfl) (pss_cons (ps_fld (pv 0) (pv 3) rfl) (pss_one (ps_fld (pv 0) (pv 4) rfl))))), ?_⟩
      have q2 : Q .non (upd H p (.ins A.c_Part dx [("field", a0), ("first", a1), ("last", a2), ("turn", a3)])) := by
        have e := q
        simp only [fo_Part, fs_Part] at e
        exact e
      refine w_seq ?_
      refine w_sfld (w_var rfl (w_var rfl ?_))
      refine w_put hp T.cl_Part T.n_Part_field (by show 0 < 1000; decide) (rfl) ?_
      refine w_seq ?_
      refine w_sfld (w_var rfl (w_var rfl ?_))
      refine w_put upd_same T.cl_Part T.n_Part_first (by show 1 < 1000; decide) ((pf_past (by decide +kernel)).trans (cons_eq (rfl))) ?_
      refine w_seq ?_
      refine w_sfld (w_var rfl (w_var rfl ?_))
      refine w_put upd_same T.cl_Part T.n_Part_last (by show 2 < 1000; decide) ((pf_past (by decide +kernel)).trans (cons_eq ((pf_past (by decide +kernel)).trans (cons_eq (rfl))))) ?_
      refine w_sfld (w_var rfl (w_var rfl ?_))
      refine w_put upd_same T.cl_Part T.n_Part_turn (by show 3 < 1000; decide) ((pf_past (by decide +kernel)).trans (cons_eq ((pf_past (by decide +kernel)).trans (cons_eq ((pf_past (by decide +kernel)).trans (cons_eq (rfl))))))) ?_
      simp only [upd_upd]
      exact q2
theorem ok_Edit_init {f : Addr} {fd : FuncData} (F : Fun K "__init__" "Edit.__init__" s_Edit_init f fd) (T : Fx K mg A) : FnOk P w K mg base CX0 1 f fd ["self", "start", "end", "text"] (spNew A.c_Edit 3 fo_Edit) := by
  refine F.ok sc_Edit_init (fun vs H Q E h => ?_) (fun cdv A' outer s H vs Q E hr h => ?_)
  · obtain ⟨p, dx, us, rfl, hn, _⟩ := h
    show us.length + 1 = 4
    rw [hn]
  · obtain ⟨p, dx, us, rfl, hn, hp, q⟩ := h
    match us, hn with
    | [a0, a1, a2], _ =>
      refine ⟨(tSeq (sFld K (tVar 0) (tVar 1) "start") (tSeq (sFld K (tVar 0) (tVar 2) "end") (sFld K (tVar 0) (tVar 3) "text"))), by exact (pss_cons (ps_fld (pv 0) (pv 1) rfl) (pss_cons (ps_fld (pv 0) (pv 2) rfl) (pss_one (ps_fld (pv 0) (pv 3) rfl)))), ?_⟩
      have q2 : Q .non (upd H p (.ins A.c_Edit dx [("start", a0), ("end", a1), ("text", a2)])) := by
        have e := q
        simp only [fo_Edit, fs_Edit] at e
        exact e
      refine w_seq ?_
      refine w_sfld (w_var rfl (w_var rfl ?_))
      refine w_put hp T.cl_Edit T.n_Edit_start (by show 0 < 1000; decide) (rfl) ?_
      refine w_seq ?_
      refine w_sfld (w_var rfl (w_var rfl ?_))
      refine w_put upd_same T.cl_Edit T.n_Edit_end (by show 1 < 1000; decide) ((pf_past (by decide +kernel)).trans (cons_eq (rfl))) ?_
      refine w_sfld (w_var rfl (w_var rfl ?_))
      refine w_put upd_same T.cl_Edit T.n_Edit_text (by show 2 < 1000; decide) ((pf_past (by decide +kernel)).trans (cons_eq ((pf_past (by decide +kernel)).trans (cons_eq (rfl))))) ?_
      simp only [upd_upd]
      exact q2
theorem ok_FromStart_init {f : Addr} {fd : FuncData} (F : Fun K "__init__" "FromStart.__init__" s_FromStart_init f fd) (T : Fx K mg A) : FnOk P w K mg base CX0 1 f fd ["self", "distance"] (spNew A.c_FromStart 1 fo_FromStart) := by
  refine F.ok sc_FromStart_init (fun vs H Q E h => ?_) (fun cdv A' outer s H vs Q E hr h => ?_)
  · obtain ⟨p, dx, us, rfl, hn, _⟩ := h
    show us.length + 1 = 2
    rw [hn]
  · obtain ⟨p, dx, us, rfl, hn, hp, q⟩ := h
    match us, hn with
    | [a0], _ =>
      refine ⟨(sFld K (tVar 0) (tVar 1) "distance"), by exact (pss_one (ps_fld (pv 0) (pv 1) rfl)), ?_⟩
      have q2 : Q .non (upd H p (.ins A.c_FromStart dx [("distance", a0)])) := by
        have e := q
        simp only [fo_FromStart, fs_FromStart] at e
        exact e
      refine w_sfld (w_var rfl (w_var rfl ?_))
      refine w_put hp T.cl_FromStart T.n_FromStart_distance (by show 0 < 1000; decide) (rfl) ?_
      simp only [upd_upd]
      exact q2
theorem ok_FromEnd_init {f : Addr} {fd : FuncData} (F : Fun K "__init__" "FromEnd.__init__" s_FromEnd_init f fd) (T : Fx K mg A) : FnOk P w K mg base CX0 1 f fd ["self", "distance"] (spNew A.c_FromEnd 1 fo_FromEnd) := by
  refine F.ok sc_FromEnd_init (fun vs H Q E h => ?_) (fun cdv A' outer s H vs Q E hr h => ?_)
  · obtain ⟨p, dx, us, rfl, hn, _⟩ := h
    show us.length + 1 = 2
    rw [hn]
  · obtain ⟨p, dx, us, rfl, hn, hp, q⟩ := h
    match us, hn with
    | [a0], _ =>
      refine ⟨(sFld K (tVar 0) (tVar 1) "distance"), by exact (pss_one (ps_fld (pv 0) (pv 1) rfl)), ?_⟩
      have q2 : Q .non (upd H p (.ins A.c_FromEnd dx [("distance", a0)])) := by
        have e := q
        simp only [fo_FromEnd, fs_FromEnd] at e
        exact e
      refine w_sfld (w_var rfl (w_var rfl ?_))
      refine w_put hp T.cl_FromEnd T.n_FromEnd_distance (by show 0 < 1000; decide) (rfl) ?_
      simp only [upd_upd]
      exact q2
theorem ok_Border_init {f : Addr} {fd : FuncData} (F : Fun K "__init__" "Border.__init__" s_Border_init f fd) (T : Fx K mg A) : FnOk P w K mg base CX0 1 f fd ["self", "left", "right", "nth", "from_right"] (spNew A.c_Border 4 fo_Border) := by
  refine F.ok sc_Border_init (fun vs H Q E h => ?_) (fun cdv A' outer s H vs Q E hr h => ?_)
  · obtain ⟨p, dx, us, rfl, hn, _⟩ := h
    show us.length + 1 = 5
    rw [hn]
  · obtain ⟨p, dx, us, rfl, hn, hp, q⟩ := h
    match us, hn with
    | [a0, a1, a2, a3], _ =>
      refine ⟨(tSeq (sFld K (tVar 0) (tVar 1) "left") (tSeq (sFld K (tVar 0) (tVar 2) "right") (tSeq (sFld K (tVar 0) (tVar 3) "nth") (sFld K (tVar 0) (tVar 4) "from_right")))), by exact (pss_cons (ps_fld (pv 0) (pv 1) rfl) (pss_cons (ps_fld (pv 0) (pv 2) rfl) (pss_cons (ps_fld (pv 0) (pv 3) rfl) (pss_one (ps_fld (pv 0) (pv 4) rfl))))), ?_⟩
      have q2 : Q .non (upd H p (.ins A.c_Border dx [("left", a0), ("right", a1), ("nth", a2), ("from_right", a3)])) := by
        have e := q
        simp only [fo_Border, fs_Border] at e
        exact e
      refine w_seq ?_
      refine w_sfld (w_var rfl (w_var rfl ?_))
      refine w_put hp T.cl_Border T.n_Border_left (by show 0 < 1000; decide) (rfl) ?_
      refine w_seq ?_
      refine w_sfld (w_var rfl (w_var rfl ?_))
      refine w_put upd_same T.cl_Border T.n_Border_right (by show 1 < 1000; decide) ((pf_past (by decide +kernel)).trans (cons_eq (rfl))) ?_
      refine w_seq ?_
      refine w_sfld (w_var rfl (w_var rfl ?_))
      refine w_put upd_same T.cl_Border T.n_Border_nth (by show 2 < 1000; decide) ((pf_past (by decide +kernel)).trans (cons_eq ((pf_past (by decide +kernel)).trans (cons_eq (rfl))))) ?_
      refine w_sfld (w_var rfl (w_var rfl ?_))
      refine w_put upd_same T.cl_Border T.n_Border_from_right (by show 3 < 1000; decide) ((pf_past (by decide +kernel)).trans (cons_eq ((pf_past (by decide +kernel)).trans (cons_eq ((pf_past (by decide +kernel)).trans (cons_eq (rfl))))))) ?_
      simp only [upd_upd]
      exact q2
theorem ok_Reader_init {f : Addr} {fd : FuncData} (F : Fun K "__init__" "Reader.__init__" s_Reader_init f fd) (T : Fx K mg A) : FnOk P w K mg base CX0 1 f fd ["self", "text"] (spNew A.c_Reader 1 fo_Reader) := by
  refine F.ok sc_Reader_init (fun vs H Q E h => ?_) (fun cdv A' outer s H vs Q E hr h => ?_)
  · obtain ⟨p, dx, us, rfl, hn, _⟩ := h
    show us.length + 1 = 2
    rw [hn]
  · obtain ⟨p, dx, us, rfl, hn, hp, q⟩ := h
    match us, hn with
    | [a0], _ =>
      refine ⟨(tSeq (sFld K (tVar 0) (tVar 1) "text") (sFld K (tVar 0) (tC (.int 0)) "place")), by exact (pss_cons (ps_fld (pv 0) (pv 1) rfl) (pss_one (ps_fld (pv 0) pe_int rfl))), ?_⟩
      have q2 : Q .non (upd H p (.ins A.c_Reader dx [("text", a0), ("place", (.int 0 : V))])) := by
        have e := q
        simp only [fo_Reader, fs_Reader] at e
        exact e
      refine w_seq ?_
      refine w_sfld (w_var rfl (w_var rfl ?_))
      refine w_put hp T.cl_Reader T.n_Reader_text (by show 0 < 1000; decide) (rfl) ?_
      refine w_sfld (w_c (w_var rfl ?_))
      refine w_put upd_same T.cl_Reader T.n_Reader_place (by show 1 < 1000; decide) ((pf_past (by decide +kernel)).trans (cons_eq (rfl))) ?_
      simp only [upd_upd]
      exact q2
end
end Oe
namespace Oe
open PySem PySem.Spec PyProof.Rows L2
open Vaflxa (Cls Case Piece At Res)
/-! ### data in the heap -/
def vB (c : UInt8) : V := .int (c.toNat : Int)
def vBs (t : List UInt8) : List V := t.map vB
theorem vBs_length (t : List UInt8) : (vBs t).length = t.length := List.length_map ..
theorem vBs_get {t : List UInt8} {i : Nat} {c : UInt8} (h : t[i]? = some c) : (vBs t)[i]? = some (vB c) := by
  unfold vBs
  rw [List.getElem?_map, h]
  rfl
def spans : Vaflxa.Cls → List (Int × Int)
  | .empty => []
  | .digits => [(48, 57)]
  | .small => [(97, 122)]
  | .capitals => [(65, 90)]
  | .letters => [(65, 90), (97, 122)]
  | .words => [(48, 57), (65, 90), (97, 122)]
  | .blanks => [(32, 32)]
  | .sign c => [((c.toNat : Int), (c.toNat : Int))]
def caseStr : Case → Str
  | .same => ""
  | .up => "^"
  | .low => "_"
  | .first => "~"
section
variable (K : PySem.W.Frag) (A : Ads) (S : Hp)
def IsSpan (v : V) (p : Int × Int) : Prop := ∃ a, v = .ref a ∧ SqT K S a [.int p.1, .int p.2]
def SpansAt (a : Addr) (l : List (Int × Int)) : Prop := ∃ vs, SqL K S a vs ∧ Paired (IsSpan K S) vs l
def PosAt (a : Addr) : Vaflxa.Pos → Prop
  | .start k => ∃ dx, S a = some (.ins A.c_FromStart dx (fs_FromStart (.int (k : Nat)))) ∧ k ≤ 60
  | .finish k => ∃ dx, S a = some (.ins A.c_FromEnd dx (fs_FromEnd (.int (k : Nat)))) ∧ k ≤ 60
  | .left l r c => ∃ dx al ar, S a = some (.ins A.c_Border dx (fs_Border (.ref al) (.ref ar) (.int (c : Nat)) (.bl false))) ∧ SpansAt K S al (spans l) ∧ SpansAt K S ar (spans r) ∧ 1 ≤ c ∧ c ≤ 40
  | .right l r c => ∃ dx al ar, S a = some (.ins A.c_Border dx (fs_Border (.ref al) (.ref ar) (.int (c : Nat)) (.bl true))) ∧ SpansAt K S al (spans l) ∧ SpansAt K S ar (spans r) ∧ 1 ≤ c ∧ c ≤ 40
def PieceAt (a : Addr) : Piece → Prop
  | .const t => ∃ dx at_, S a = some (.ins A.c_Constant dx (fs_Constant (.ref at_))) ∧ S at_ = some (.lst (vBs t)) ∧ 1 ≤ t.length ∧ t.length ≤ 12
  | .sub f p q k => ∃ dx ap aq, S a = some (.ins A.c_Part dx (fs_Part (.int (f : Nat)) (.ref ap) (.ref aq) (.str (caseStr k)))) ∧ PosAt K A S ap p ∧ PosAt K A S aq q ∧ 1 ≤ f ∧ f ≤ 4
def IsPiece (v : V) (x : Piece) : Prop := ∃ a, v = .ref a ∧ PieceAt K A S a x
def ProgAt (a : Addr) (l : Vaflxa.Program) : Prop := ∃ vs, S a = some (.lst vs) ∧ Paired (IsPiece K A S) vs l ∧ l.length ≤ 6
end
section
variable {K : PySem.W.Frag} {A : Ads} {S S' : Hp}
theorem Same.tup {a : Addr} {xs : List V} (e : Same S S') (h : SqT K S a xs) : SqT K S' a xs := by
  rcases h with (h | ⟨q, h⟩) | h
  · exact .inl (.inl (e _ _ h))
  · exact .inl (.inr ⟨q, e _ _ h⟩)
  · exact .inr h
theorem IsSpan.mono {v : V} {p : Int × Int} (h : IsSpan K S v p) (e : Same S S') : IsSpan K S' v p := by
  obtain ⟨a, rfl, q⟩ := h
  exact ⟨a, rfl, Same.tup e q⟩
theorem SpansAt.mono {a : Addr} {l : List (Int × Int)} (h : SpansAt K S a l) (e : Same S S') : SpansAt K S' a l := by
  obtain ⟨vs, q, r⟩ := h
  exact ⟨vs, e.seq q, Paired.mapP r fun _ _ z => z.mono e⟩
theorem PosAt.mono {a : Addr} {p : Vaflxa.Pos} (h : PosAt K A S a p) (e : Same S S') : PosAt K A S' a p := by
  cases p with
  | start k => obtain ⟨dx, q, z⟩ := h; exact ⟨dx, e _ _ q, z⟩
  | finish k => obtain ⟨dx, q, z⟩ := h; exact ⟨dx, e _ _ q, z⟩
  | left l r c => obtain ⟨dx, al, ar, q, hl, hr, z⟩ := h; exact ⟨dx, al, ar, e _ _ q, hl.mono e, hr.mono e, z⟩
  | right l r c => obtain ⟨dx, al, ar, q, hl, hr, z⟩ := h; exact ⟨dx, al, ar, e _ _ q, hl.mono e, hr.mono e, z⟩
theorem PieceAt.mono {a : Addr} {x : Piece} (h : PieceAt K A S a x) (e : Same S S') : PieceAt K A S' a x := by
  cases x with
  | const t => obtain ⟨dx, at_, q, z, y⟩ := h; exact ⟨dx, at_, e _ _ q, e _ _ z, y⟩
  | sub f p q k => obtain ⟨dx, ap, aq, z, hp, hq, y⟩ := h; exact ⟨dx, ap, aq, e _ _ z, hp.mono e, hq.mono e, y⟩
theorem IsPiece.mono {v : V} {x : Piece} (h : IsPiece K A S v x) (e : Same S S') : IsPiece K A S' v x := by
  obtain ⟨a, rfl, q⟩ := h
  exact ⟨a, rfl, q.mono e⟩
theorem ProgAt.mono {a : Addr} {l : Vaflxa.Program} (h : ProgAt K A S a l) (e : Same S S') : ProgAt K A S' a l := by
  obtain ⟨vs, q, r, z⟩ := h
  exact ⟨vs, e _ _ q, Paired.mapP r fun _ _ y => y.mono e, z⟩
theorem Paired.len {α β : Type} {F : α → β → Prop} {l : List α} {m : List β} (h : Paired F l m) : l.length = m.length := by
  induction h with
  | nil => rfl
  | cons _ _ ih => simp [ih]
theorem Paired.snoc {α β : Type} {F : α → β → Prop} {l : List α} {m : List β} {x : α} {y : β} (h : Paired F l m) (q : F x y) : Paired F (l ++ [x]) (m ++ [y]) := by
  induction h with
  | nil => exact .cons q .nil
  | cons r _ ih => exact .cons r ih
theorem Paired.get {α β : Type} {F : α → β → Prop} {l : List α} {m : List β} (h : Paired F l m) : ∀ {i : Nat} {y : β}, m[i]? = some y → ∃ x, l[i]? = some x ∧ F x y := by
  induction h with
  | nil => intro i y e; simp at e
  | cons r _ ih =>
    intro i y e
    cases i with
    | zero =>
      have z := Option.some.inj e
      subst z
      exact ⟨_, rfl, r⟩
    | succ i => exact ih (i := i) e
theorem Paired.get' {α β : Type} {F : α → β → Prop} {l : List α} {m : List β} (h : Paired F l m) : ∀ {i : Nat} {x : α}, l[i]? = some x → ∃ y, m[i]? = some y ∧ F x y := by
  induction h with
  | nil => intro i y e; simp at e
  | cons r _ ih =>
    intro i y e
    cases i with
    | zero =>
      have z := Option.some.inj e
      subst z
      exact ⟨_, rfl, r⟩
    | succ i => exact ih (i := i) e
end
/-! ### the reader's promises -/
def sg (c : UInt8) : Str := ⟨#[c.toNat]⟩
structure RdAt (A : Ads) (S H : Hp) (r dx t : Addr) (bs : List UInt8) (p : Nat) : Prop where
  hr : H r = some (.ins A.c_Reader dx (fs_Reader (.ref t) (.int (p : Nat))))
  hS : Same S H
  hn : S r = none
  ht : S t = some (.lst (vBs bs))
  hp : p ≤ bs.length
  hl : bs.length ≤ 1000
def spRd {R : Type} (A : Ads) (args : List V) (f : At → Res (R × At)) (pred : Hp → V → R → Prop) : Sp := fun vs H Q E =>
  ∃ r dx t bs p S, vs = .ref r :: args ∧ RdAt A S H r dx t bs p ∧
    (∀ x p' v S' H', f (p, bs.drop p) = .ok (x, (p', bs.drop p')) → p ≤ p' → RdAt A S' H' r dx t bs p' → Grow (fun b => b = r) S H S' H' → pred S' v x → Q v H') ∧
    (∀ e p' d S' H', f (p, bs.drop p) = .error e → RdAt A S' H' r dx t bs p' → Grow (fun b => b = r) S H S' H' → H' d = some (.xd (PySem.OeX.fo_Fault [.int (e.kind : Nat), .int (e.place : Nat)])) → E (.ref A.c_Fault) (some d) H')
def inR (lo hi : Int) : Option UInt8 → Bool
  | some c => decide (lo ≤ (c.toNat : Int)) && decide ((c.toNat : Int) ≤ hi)
  | none => false
def flt {R : Type} (k p : Nat) : Res R := .error ⟨k, p⟩
def takeAt (lo hi : Int) (a : At) : Res (UInt8 × At) := match a.2 with
  | c :: r => if inR lo hi (some c) = true then .ok (c, (a.1 + 1, r)) else flt 1 a.1
  | [] => flt 1 a.1
def needAt (c : UInt8) (a : At) : Res (Unit × At) := match Vaflxa.expect c a with
  | .ok b => .ok ((), b)
  | .error e => .error e
def endAt (a : At) : Res (Unit × At) := match a.2 with
  | [] => .ok ((), a)
  | _ :: _ => flt 1 a.1
def digitAt (a : At) : Res (UInt8 × At) := takeAt 48 57 a
def quotedAt (a : At) : Res (Cls × At) := match a.2 with
  | d :: s => if Vaflxa.isSign d then .ok (.sign d, (a.1 + 1, s)) else flt 1 a.1
  | [] => flt 1 a.1
def partAt (a : At) : Res (Piece × At) := match a.2 with
  | c :: r => if 49 ≤ c ∧ c ≤ 52 then Vaflxa.placesAt (c.toNat - 48) (a.1 + 1, r) else flt 1 a.1
  | [] => flt 1 a.1
def const34 (a : At) : Res (Piece × At) := match a.2 with
  | c :: _ => if c = 34 then Vaflxa.constAt a else flt 1 a.1
  | [] => flt 1 a.1
def turnAt (a : At) : Res (Case × At) := .ok (Vaflxa.caseAt a)
section
def sp_Reader_stands_within (K : PySem.W.Frag) (A : Ads) : Sp := fun vs H Q _ => vs.length = 3 ∧ ∃ r dx t bs p lo hi S, vs = [.ref r, .int lo, .int hi] ∧ RdAt A S H r dx t bs p ∧ Q (.bl (inR lo hi bs[p]?)) H
def sp_Reader_stands (K : PySem.W.Frag) (A : Ads) : Sp := fun vs H Q _ => vs.length = 2 ∧ ∃ r dx t bs p c S, vs = [.ref r, .str (sg c)] ∧ RdAt A S H r dx t bs p ∧ Q (.bl (decide (bs[p]? = some c))) H
def sp_Reader_skip (K : PySem.W.Frag) (A : Ads) : Sp := fun vs H Q _ => vs.length = 2 ∧ ∃ r dx t bs p c S, vs = [.ref r, .str (sg c)] ∧ RdAt A S H r dx t bs p ∧
  (bs[p]? = some c → ∀ H', RdAt A S H' r dx t bs (p + 1) → Grow (fun b => b = r) S H S H' → Q (.bl true) H') ∧ (bs[p]? ≠ some c → Q (.bl false) H)
def sp_Reader_take (K : PySem.W.Frag) (A : Ads) : Sp := fun vs H Q E => vs.length = 3 ∧ ∃ lo hi : Int, spRd A [.int lo, .int hi] (takeAt lo hi) (fun _ v c => v = vB c) vs H Q E
def sp_Reader_need (K : PySem.W.Frag) (A : Ads) : Sp := fun vs H Q E => vs.length = 2 ∧ ∃ c, spRd A [.str (sg c)] (needAt c) (fun _ v _ => v = .non) vs H Q E
def sp_Reader_need_end (K : PySem.W.Frag) (A : Ads) : Sp := fun vs H Q E => vs.length = 1 ∧ spRd A [] endAt (fun _ v _ => v = .non) vs H Q E
def sp_read_digit (K : PySem.W.Frag) (A : Ads) : Sp := fun vs H Q E => vs.length = 1 ∧ spRd A [] digitAt (fun _ v c => v = .int ((c.toNat : Int) - 48)) vs H Q E
def sp_read_number (K : PySem.W.Frag) (A : Ads) : Sp := fun vs H Q E => vs.length = 3 ∧ ∃ lo hi : Nat, spRd A [.int (lo : Nat), .int (hi : Nat)] (Vaflxa.numberAt lo hi) (fun _ v n => v = .int (n : Nat) ∧ lo ≤ n ∧ n ≤ hi) vs H Q E
def sp_read_quoted (K : PySem.W.Frag) (A : Ads) : Sp := fun vs H Q E => vs.length = 1 ∧ spRd A [] quotedAt (fun S v k => ∃ a, v = .ref a ∧ SpansAt K S a (spans k)) vs H Q E
def sp_read_class (K : PySem.W.Frag) (A : Ads) : Sp := fun vs H Q E => vs.length = 1 ∧ spRd A [] Vaflxa.clsAt (fun S v k => ∃ a, v = .ref a ∧ SpansAt K S a (spans k)) vs H Q E
def sp_read_border (K : PySem.W.Frag) (A : Ads) : Sp := fun vs H Q E => vs.length = 1 ∧ spRd A [] Vaflxa.borderAt (fun S v p => ∃ a, v = .ref a ∧ PosAt K A S a p) vs H Q E
def sp_read_position (K : PySem.W.Frag) (A : Ads) : Sp := fun vs H Q E => vs.length = 1 ∧ spRd A [] Vaflxa.posAt (fun S v p => ∃ a, v = .ref a ∧ PosAt K A S a p) vs H Q E
def sp_read_turn (K : PySem.W.Frag) (A : Ads) : Sp := fun vs H Q _ => vs.length = 1 ∧ ∃ r dx t bs p S, vs = [.ref r] ∧ RdAt A S H r dx t bs p ∧
  ∀ k p' S' H', Vaflxa.caseAt (p, bs.drop p) = (k, (p', bs.drop p')) → p ≤ p' → RdAt A S' H' r dx t bs p' → Grow (fun b => b = r) S H S' H' → Q (.str (caseStr k)) H'
def sp_read_part (K : PySem.W.Frag) (A : Ads) : Sp := fun vs H Q E => vs.length = 1 ∧ spRd A [] partAt (fun S v x => ∃ a, v = .ref a ∧ PieceAt K A S a x) vs H Q E
def sp_read_constant (K : PySem.W.Frag) (A : Ads) : Sp := fun vs H Q E => vs.length = 1 ∧ spRd A [] const34 (fun S v x => ∃ a, v = .ref a ∧ PieceAt K A S a x) vs H Q E
def sp_read_piece (K : PySem.W.Frag) (A : Ads) : Sp := fun vs H Q E => vs.length = 1 ∧ spRd A [] Vaflxa.pieceAt (fun S v x => ∃ a, v = .ref a ∧ PieceAt K A S a x) vs H Q E
def sp_read_program (K : PySem.W.Frag) (A : Ads) : Sp := fun vs H Q E => vs.length = 1 ∧ ∃ t bs S, vs = [.ref t] ∧ Same S H ∧ S t = some (.lst (vBs bs)) ∧ bs.length ≤ 1000 ∧
  (∀ l a S' H', Vaflxa.read bs = .ok l → Grow (fun _ => False) S H S' H' → ProgAt K A S' a l → Q (.ref a) H') ∧
  (∀ e d S' H', Vaflxa.read bs = .error e → Grow (fun _ => False) S H S' H' → H' d = some (.xd (PySem.OeX.fo_Fault [.int (e.kind : Nat), .int (e.place : Nat)])) → E (.ref A.c_Fault) (some d) H')
/-! ### classes and positions -/
def spans_any (b : Int) (l : List (Int × Int)) : Bool := l.any fun p => decide (p.1 ≤ b) && decide (b ≤ p.2)
def sp_in_spans (K : PySem.W.Frag) (A : Ads) : Sp := fun vs H Q _ => vs.length = 2 ∧ ∃ (b : Int) (a : Addr) (l : List (Int × Int)), vs = [.int b, .ref a] ∧ SpansAt K H a l ∧ Q (.bl (spans_any b l)) H
def sp_is_letter_or_digit (K : PySem.W.Frag) (A : Ads) : Sp := fun vs H Q _ => vs.length = 1 ∧ ∃ b : Int, vs = [.int b] ∧ ∀ H' , Same H H' → Q (.bl (spans_any b (spans .words))) H'
def sp_stands_behind (K : PySem.W.Frag) (A : Ads) : Sp := fun vs H Q _ => vs.length = 3 ∧ ∃ (t : Addr) (bs : List UInt8) (p : Int) (a : Addr) (k : Cls), vs = [.ref t, .int p, .ref a] ∧ SqL K H t (vBs bs) ∧ SpansAt K H a (spans k) ∧
  Q (.bl (decide (0 ≤ p) && Vaflxa.byteIn k bs p.toNat)) H
def sp_begins (K : PySem.W.Frag) (A : Ads) : Sp := fun vs H Q _ => vs.length = 3 ∧ ∃ (t : Addr) (bs : List UInt8) (p : Nat) (a : Addr) (k : Cls), vs = [.ref t, .int (p : Nat), .ref a] ∧ SqL K H t (vBs bs) ∧ SpansAt K H a (spans k) ∧ Q (.bl (Vaflxa.begins k bs p)) H
def sp_ends (K : PySem.W.Frag) (A : Ads) : Sp := fun vs H Q _ => vs.length = 3 ∧ ∃ (t : Addr) (bs : List UInt8) (p : Nat) (a : Addr) (k : Cls), vs = [.ref t, .int (p : Nat), .ref a] ∧ SqL K H t (vBs bs) ∧ SpansAt K H a (spans k) ∧ Q (.bl (Vaflxa.ends k bs p)) H
def sp_borders (K : PySem.W.Frag) (A : Ads) : Sp := fun vs H Q _ => vs.length = 3 ∧ ∃ t bs a l b r, vs = [.ref t, .ref a, .ref b] ∧ SqL K H t (vBs bs) ∧ bs.length ≤ 1000 ∧ SpansAt K H a (spans l) ∧ SpansAt K H b (spans r) ∧
  ∀ p, H p = none → Q (.ref p) (upd H p (.lst ((Vaflxa.borders l r bs).map fun n => .int (n : Nat))))
/-- a place, or None -/
def vPlace : Option Nat → V
  | some n => .int (n : Nat)
  | none => .non
def spPlace (K : PySem.W.Frag) (pos : Addr → Vaflxa.Pos → Hp → Prop) : Sp := fun vs H Q _ => vs.length = 2 ∧ ∃ a x t bs, vs = [.ref a, .ref t] ∧ pos a x H ∧ SqL K H t (vBs bs) ∧ bs.length ≤ 1000 ∧ ∀ H', Same H H' → Q (vPlace (Vaflxa.placeOf x bs)) H'
def isStart : Vaflxa.Pos → Prop
  | .start _ => True
  | _ => False
def isFinish : Vaflxa.Pos → Prop
  | .finish _ => True
  | _ => False
def isBorder : Vaflxa.Pos → Prop
  | .left _ _ _ => True
  | .right _ _ _ => True
  | _ => False
def sp_FromStart_place_in (K : PySem.W.Frag) (A : Ads) : Sp := spPlace K fun a x H => isStart x ∧ PosAt K A H a x
def sp_FromEnd_place_in (K : PySem.W.Frag) (A : Ads) : Sp := spPlace K fun a x H => isFinish x ∧ PosAt K A H a x
def sp_Border_place_in (K : PySem.W.Frag) (A : Ads) : Sp := spPlace K fun a x H => isBorder x ∧ PosAt K A H a x
def tb_Pos (K : PySem.W.Frag) (A : Ads) (C : Addr) (sp : Sp) : Prop := (C = A.c_FromStart ∧ sp = sp_FromStart_place_in K A) ∨ (C = A.c_FromEnd ∧ sp = sp_FromEnd_place_in K A) ∨ (C = A.c_Border ∧ sp = sp_Border_place_in K A)
end
theorem lit_48 : (("0" : String) : Str) = sg 48 := by decide +kernel
theorem lit_49 : (("1" : String) : Str) = sg 49 := by decide +kernel
theorem lit_52 : (("4" : String) : Str) = sg 52 := by decide +kernel
theorem lit_57 : (("9" : String) : Str) = sg 57 := by decide +kernel
theorem lit_34 : (("\"" : String) : Str) = sg 34 := by decide +kernel
theorem lit_38 : (("&" : String) : Str) = sg 38 := by decide +kernel
theorem lit_91 : (("[" : String) : Str) = sg 91 := by decide +kernel
theorem lit_58 : ((":" : String) : Str) = sg 58 := by decide +kernel
theorem lit_93 : (("]" : String) : Str) = sg 93 := by decide +kernel
theorem lit_94 : (("^" : String) : Str) = sg 94 := by decide +kernel
theorem lit_95 : (("_" : String) : Str) = sg 95 := by decide +kernel
theorem lit_126 : (("~" : String) : Str) = sg 126 := by decide +kernel
theorem lit_43 : (("+" : String) : Str) = sg 43 := by decide +kernel
theorem lit_45 : (("-" : String) : Str) = sg 45 := by decide +kernel
theorem lit_124 : (("|" : String) : Str) = sg 124 := by decide +kernel
theorem lit_39 : (("'" : String) : Str) = sg 39 := by decide +kernel
theorem lit_68 : (("D" : String) : Str) = sg 68 := by decide +kernel
theorem lit_76 : (("L" : String) : Str) = sg 76 := by decide +kernel
theorem lit_85 : (("U" : String) : Str) = sg 85 := by decide +kernel
theorem lit_65 : (("A" : String) : Str) = sg 65 := by decide +kernel
theorem lit_78 : (("N" : String) : Str) = sg 78 := by decide +kernel
theorem lit_66 : (("B" : String) : Str) = sg 66 := by decide +kernel
theorem lit_46 : (("." : String) : Str) = sg 46 := by decide +kernel
/-! ### steps over the data -/
section
variable {K : PySem.W.Frag} {H : Hp} {Q : VK}
theorem w_ixB {t : Addr} {bs : List UInt8} {p : Nat} {c : UInt8} (h : SqL K H t (vBs bs)) (e : bs[p]? = some c) (q : Q (.int (c.toNat : Int)) H) : rIxL K (.ref t) (.int (p : Nat)) H Q := w_ixL h (at_of rfl (vBs_get e)) q
theorem w_ordS {c : UInt8} (q : Q (.int (c.toNat : Int)) H) : rOrd [.str (sg c)] H Q := w_ord rfl q
theorem inR_self {c : UInt8} {o : Option UInt8} : inR (c.toNat : Int) (c.toNat : Int) o = decide (o = some c) := by
  cases o with
  | none => rfl
  | some d =>
    unfold inR
    by_cases e : d = c
    · subst e
      simp
    · rw [decide_eq_false (fun z => e (Option.some.inj z))]
      have hn : d.toNat ≠ c.toNat := fun z => e (UInt8.toNat_inj.mp z)
      rw [Bool.and_eq_false_iff]
      by_cases h : (c.toNat : Int) ≤ (d.toNat : Int)
      · exact Or.inr (decide_eq_false (by omega))
      · exact Or.inl (decide_eq_false h)
theorem drop_some {bs : List UInt8} {p : Nat} {c : UInt8} (h : bs[p]? = some c) : bs.drop p = c :: bs.drop (p + 1) := by
  obtain ⟨lt, is⟩ := List.getElem?_eq_some_iff.mp h
  rw [List.drop_eq_getElem_cons lt, is]
theorem drop_none {bs : List UInt8} {p : Nat} (h : bs[p]? = none) : bs.drop p = [] := List.drop_eq_nil_of_le (List.getElem?_eq_none_iff.mp h)
theorem get_lt {bs : List UInt8} {p : Nat} (h : p < bs.length) : ∃ c, bs[p]? = some c := ⟨_, List.getElem?_eq_getElem h⟩
theorem lt_get {bs : List UInt8} {p : Nat} {c : UInt8} (h : bs[p]? = some c) : p < bs.length := (List.getElem?_eq_some_iff.mp h).1
end
/-! ### the reader moved, an error told -/
section
variable {A : Ads} {S H S' H' : Hp} {r dx t : Addr} {bs : List UInt8} {p q : Nat}
theorem RdAt.put (R : RdAt A S H r dx t bs p) (h : q ≤ bs.length) : RdAt A S (upd H r (.ins A.c_Reader dx (fs_Reader (.ref t) (.int (q : Nat))))) r dx t bs q ∧ Grow (fun b => b = r) S H S (upd H r (.ins A.c_Reader dx (fs_Reader (.ref t) (.int (q : Nat))))) := by
  have G : Grow (fun b => b = r) S H S (upd H r (.ins A.c_Reader dx (fs_Reader (.ref t) (.int (q : Nat))))) := Grow.put R.hS rfl (by rw [R.hr]; exact fun z => nomatch z) R.hn
  exact ⟨⟨upd_same, G.sub, R.hn, R.ht, h, R.hl⟩, G⟩
/-- a new object beside -/
theorem RdAt.made {o : HO} {d : Addr} (R : RdAt A S H r dx t bs p) (hd : H d = none) : RdAt A S (upd H d o) r dx t bs p ∧ Grow (fun b => b = r) S H S (upd H d o) := by
  have G : Grow (fun b => b = r) S H S (upd H d o) := Grow.made R.hS hd
  exact ⟨⟨by rw [upd_ne (ne_of_none R.hr hd)]; exact R.hr, G.sub, R.hn, R.ht, R.hp, R.hl⟩, G⟩
/-- a store to another one that may change -/
theorem RdAt.other {o : HO} {d : Addr} (R : RdAt A S H r dx t bs p) (hd : d ≠ r) (hs : S d = none) : RdAt A S (upd H d o) r dx t bs p :=
  ⟨by rw [upd_ne (Ne.symm hd)]; exact R.hr, fun b u e => by rw [upd_ne (ne_of_none e hs)]; exact R.hS b u e, R.hn, R.ht, R.hp, R.hl⟩
/-- a new object that never changes -/
theorem RdAt.laid {o : HO} {d : Addr} (R : RdAt A S H r dx t bs p) (hd : H d = none) : RdAt A (upd S d o) (upd H d o) r dx t bs p ∧ Grow (fun b => b = r) S H (upd S d o) (upd H d o) := by
  have G : Grow (fun b => b = r) S H (upd S d o) (upd H d o) := Grow.laid R.hS hd
  have e : r ≠ d := ne_of_none R.hr hd
  exact ⟨⟨by rw [upd_ne e]; exact R.hr, G.sub, by rw [upd_ne e]; exact R.hn, G.up _ _ R.ht, R.hp, R.hl⟩, G⟩
end
/-! ### the tables of the top -/
def WrT (K : PySem.W.Frag) (a : Addr) (xs : List V) : Prop := ∃ (o : Obj) (its : Array Value) (n : Nat), K.lookup a = some o ∧ o.cls = .type "tuple" ∧ o.data = .seq its n ∧ its.size ≤ sizeLine ∧ Vals xs its.toList
theorem WrT.at {K : PySem.W.Frag} {a : Addr} {xs : List V} {H : Hp} (h : WrT K a xs) : SqT K H a xs := Or.inr h
def WrSpan (K : PySem.W.Frag) (v : V) (p : Int × Int) : Prop := ∃ a, v = .ref a ∧ WrT K a [.int p.1, .int p.2]
def WrSpans (K : PySem.W.Frag) (a : Addr) (l : List (Int × Int)) : Prop := ∃ vs, WrT K a vs ∧ Paired (WrSpan K) vs l
def classTab : List (UInt8 × Cls) := [(68, .digits), (76, .small), (85, .capitals), (65, .letters), (78, .words), (66, .blanks), (46, .empty)]
def WrClass (K : PySem.W.Frag) (v : V) (p : UInt8 × Cls) : Prop := ∃ a b, v = .ref a ∧ WrT K a [.str (sg p.1), .ref b] ∧ WrSpans K b (spans p.2)
def shapeTab : List (Int × Bool) := [(0, true), (0, true), (0, false), (0, false), (0, false), (1, false), (2, false), (2, true), (2, true), (0, true), (1, false), (0, false)]
def WrShape (K : PySem.W.Frag) (v : V) (p : Int × Bool) : Prop := ∃ a, v = .ref a ∧ WrT K a [.int p.1, .bl p.2]
structure Tabs (K : PySem.W.Frag) (A : Ads) : Prop where
  shp : ∃ vs, WrT K A.g_SHAPES vs ∧ Paired (WrShape K) vs shapeTab
  lad : WrSpans K A.g_LETTERS_AND_DIGITS (spans .words)
  cls : ∃ vs, WrT K A.g_CLASSES vs ∧ Paired (WrClass K) vs classTab
theorem WrSpan.at {K : PySem.W.Frag} {H : Hp} {v : V} {p : Int × Int} (h : WrSpan K v p) : IsSpan K H v p := by
  obtain ⟨a, e, w⟩ := h
  exact ⟨a, e, w.at⟩
/-- a new list of a table's spans -/
theorem WrSpans.new {K : PySem.W.Frag} {H : Hp} {p : Addr} {vs : List V} {l : List (Int × Int)} (h : Paired (WrSpan K) vs l) : SpansAt K (upd H p (.lst vs)) p l :=
  ⟨vs, SqL.of upd_same, Paired.mapP h fun _ _ z => z.at⟩
theorem w_gtup2 {K : PySem.W.Frag} {i j : Nat} {a : Addr} {x y : V} {σ : L2.St} {H : Hp} {QS : L2.St → Hp → Prop} (h : SqT K H a [x, y]) (q : QS ((σ.set i (some x)).set j (some y)) H) : gTup K 2 (gCons (gName i) (gCons (gName j) gNil)) (.ref a) σ H QS :=
  ⟨a, [x, y], rfl, h, rfl, x, [y], rfl, y, [], rfl, rfl, q⟩
theorem SqL.upd {K : PySem.W.Frag} {H : Hp} {a p : Addr} {xs : List V} {o : HO} (h : SqL K H a xs) (hp : H p = none) : SqL K (upd H p o) a xs := Same.seq (fun b u e => by rw [upd_ne (ne_of_none e hp)]; exact e) h
theorem same_upd {H : Hp} {p : Addr} {o : HO} (hp : H p = none) : Same H (upd H p o) := fun b u e => by
  rw [upd_ne (ne_of_none e hp)]
  exact e
theorem Grow.same_ {r : Addr → Prop} {S H H' : Hp} (hS : Same S H) (e : Same H H') : Grow r S H S H' :=
  ⟨fun q u h _ => e q u h, fun q h => e.free h, Same.refl S, hS.trans e, fun _ h => Or.inl h⟩
theorem RdAt.same_ {A : Ads} {S H H' : Hp} {r dx t : Addr} {bs : List UInt8} {p : Nat} (R : RdAt A S H r dx t bs p) (e : Same H H') : RdAt A S H' r dx t bs p := ⟨e _ _ R.hr, R.hS.trans e, R.hn, R.ht, R.hp, R.hl⟩
/-- the reader's error, made here -/
theorem RdAt.fault {A : Ads} {S H S' H' : Hp} {r dx t : Addr} {bs : List UInt8} {p p' : Nat} {R : Type} {f : At → Res (R × At)} {E : XK} {k pl : Nat} (hf : f (p, bs.drop p) = .error ⟨k, pl⟩) (R' : RdAt A S' H' r dx t bs p') (G : Grow (fun b => b = r) S H S' H')
    (q2 : ∀ e p' d S' H', f (p, bs.drop p) = .error e → RdAt A S' H' r dx t bs p' → Grow (fun b => b = r) S H S' H' → H' d = some (.xd (PySem.OeX.fo_Fault [.int (e.kind : Nat), .int (e.place : Nat)])) → E (.ref A.c_Fault) (some d) H') :
    IsErr A.c_Fault 2 PySem.OeX.fo_Fault [.int (k : Nat), .int (pl : Nat)] H' E := by
  refine ⟨rfl, fun d hd => ?_⟩
  obtain ⟨R4, G4⟩ := R'.made (o := .xd (PySem.OeX.fo_Fault [.int (k : Nat), .int (pl : Nat)])) hd
  exact q2 ⟨k, pl⟩ _ d S' _ hf R4 (G.trans G4) upd_same
/-- what was laid here never changes from now on -/
theorem RdAt.fix {A : Ads} {S H : Hp} {r dx t l : Addr} {bs : List UInt8} {p : Nat} {o : HO} (R : RdAt A S H r dx t bs p) (h : H l = some o) (hl : l ≠ r) : RdAt A (upd S l o) H r dx t bs p := by
  refine ⟨R.hr, fun q u e => ?_, by rw [upd_ne (Ne.symm hl)]; exact R.hn, ?_, R.hp, R.hl⟩
  · by_cases hq : q = l
    · subst hq
      rw [upd_same] at e
      rw [h]
      exact e
    · rw [upd_ne hq] at e
      exact R.hS q u e
  · by_cases hq : t = l
    · subst hq
      have z := R.hS _ _ R.ht
      rw [h] at z
      rw [upd_same]
      exact z
    · rw [upd_ne hq]
      exact R.ht
/-! ### pieces and what they give -/
theorem lit_ : (("" : String) : Str) = ⟨#[]⟩ := by decide +kernel
abbrev G3 := List UInt8 × Nat × Nat
def GivenAt (A : Ads) (S : Hp) (a : Addr) (g : G3) : Prop := ∃ dx at_, S a = some (.ins A.c_Given dx (fs_Given (.ref at_) (.int (g.2.1 : Nat)) (.int (g.2.2 : Nat)))) ∧ S at_ = some (.lst (vBs g.1))
def IsGiven (A : Ads) (S : Hp) (v : V) (g : G3) : Prop := ∃ a, v = .ref a ∧ GivenAt A S a g
def IsText (S : Hp) (v : V) (t : List UInt8) : Prop := ∃ a, v = .ref a ∧ S a = some (.lst (vBs t))
def RecAt (S : Hp) (a : Addr) (r : List (List UInt8)) : Prop := ∃ vs, S a = some (.lst vs) ∧ Paired (IsText S) vs r
theorem GivenAt.mono {A : Ads} {S S' : Hp} {a : Addr} {g : G3} (h : GivenAt A S a g) (e : Same S S') : GivenAt A S' a g := by
  obtain ⟨dx, at_, h1, h2⟩ := h
  exact ⟨dx, at_, e _ _ h1, e _ _ h2⟩
theorem IsGiven.mono {A : Ads} {S S' : Hp} {v : V} {g : G3} (h : IsGiven A S v g) (e : Same S S') : IsGiven A S' v g := by
  obtain ⟨a, rfl, h1⟩ := h
  exact ⟨a, rfl, h1.mono e⟩
theorem IsText.mono {S S' : Hp} {v : V} {t : List UInt8} (h : IsText S v t) (e : Same S S') : IsText S' v t := by
  obtain ⟨a, rfl, h1⟩ := h
  exact ⟨a, rfl, e _ _ h1⟩
theorem RecAt.mono {S S' : Hp} {a : Addr} {r : List (List UInt8)} (h : RecAt S a r) (e : Same S S') : RecAt S' a r := by
  obtain ⟨vs, h1, h2⟩ := h
  exact ⟨vs, e _ _ h1, Paired.mapP h2 fun _ _ z => z.mono e⟩
/-- the field and the place from which a piece's text comes -/
def srcOf (r : Vaflxa.Record) : Piece → Nat × Nat
  | .const _ => (0, 0)
  | .sub f p q _ => (f, ((Vaflxa.taken r f p q).map fun s => s.1).getD 0)
def outsFrom (r : Vaflxa.Record) : Nat → Vaflxa.Program → Except Nat (List G3)
  | _, [] => .ok []
  | i, x :: l => match Vaflxa.pieceOut r x with
    | none => .error i
    | some t => match outsFrom r (i + 1) l with
      | .error e => .error e
      | .ok gs => .ok ((t, srcOf r x) :: gs)
def nobody : Addr → Prop := fun _ => False
def sp_capital (K : PySem.W.Frag) (A : Ads) : Sp := fun vs H Q _ => vs.length = 1 ∧ ∃ c : UInt8, vs = [.int (c.toNat : Int)] ∧ Q (.int ((Vaflxa.toCapital c).toNat : Int)) H
def sp_small (K : PySem.W.Frag) (A : Ads) : Sp := fun vs H Q _ => vs.length = 1 ∧ ∃ c : UInt8, vs = [.int (c.toNat : Int)] ∧ Q (.int ((Vaflxa.toSmall c).toNat : Int)) H
def sp_turned (K : PySem.W.Frag) (A : Ads) : Sp := fun vs H Q _ => vs.length = 2 ∧ ∃ S t bs k, vs = [.ref t, .str (caseStr k)] ∧ Same S H ∧ S t = some (.lst (vBs bs)) ∧ bs.length ≤ 1000 ∧
  ∀ S' a H', Grow nobody S H S' H' → S' a = some (.lst (vBs (Vaflxa.cased k bs))) → Q (.ref a) H'
def sp_Given_source (K : PySem.W.Frag) (A : Ads) : Sp := fun vs H Q _ => vs.length = 2 ∧ ∃ (a : Addr) (g : G3) (k : Nat), vs = [.ref a, .int (k : Nat)] ∧ GivenAt A H a g ∧
  ∀ p, H p = none → Q (.ref p) (upd H p (.lst (if g.2.1 = 0 then [.int 0, .int 0] else [.int (g.2.1 : Nat), .int ((g.2.2 + k : Nat) : Int)])))
def spGivenOn (K : PySem.W.Frag) (A : Ads) (kind : Piece → Prop) : Sp := fun vs H Q _ => vs.length = 2 ∧ ∃ a x rc r S, vs = [.ref a, .ref rc] ∧ kind x ∧ Same S H ∧ PieceAt K A S a x ∧ RecAt S rc r ∧ (∀ t ∈ r, t.length ≤ 1000) ∧ r.length ≤ 1000 ∧
  (Vaflxa.pieceOut r x = none → ∀ H', Same H H' → Q .non H') ∧
  (∀ t, Vaflxa.pieceOut r x = some t → ∀ S' g H', Grow nobody S H S' H' → GivenAt A S' g (t, srcOf r x) → Q (.ref g) H')
def isConst : Piece → Prop
  | .const _ => True
  | _ => False
def isSub : Piece → Prop
  | .sub _ _ _ _ => True
  | _ => False
def sp_Constant_given_on (K : PySem.W.Frag) (A : Ads) : Sp := spGivenOn K A isConst
def sp_Part_given_on (K : PySem.W.Frag) (A : Ads) : Sp := spGivenOn K A isSub
def tb_Piece (K : PySem.W.Frag) (A : Ads) (C : Addr) (sp : Sp) : Prop := (C = A.c_Constant ∧ sp = sp_Constant_given_on K A) ∨ (C = A.c_Part ∧ sp = sp_Part_given_on K A)
def sp_all_given (K : PySem.W.Frag) (A : Ads) : Sp := fun vs H Q E => vs.length = 2 ∧ ∃ pr l rc r S, vs = [.ref pr, .ref rc] ∧ Same S H ∧ ProgAt K A S pr l ∧ RecAt S rc r ∧ (∀ t ∈ r, t.length ≤ 1000) ∧ r.length ≤ 1000 ∧
  (∀ i, outsFrom r 0 l = .error i → ∀ H' d, Same H H' → H' d = some (.xd (PySem.OeX.fo_NoOutput [.int (i : Nat)])) → E (.ref A.c_NoOutput) (some d) H') ∧
  (∀ gs, outsFrom r 0 l = .ok gs → ∀ S' a H' vs', Grow nobody S H S' H' → S' a = some (.lst vs') → Paired (IsGiven A S') vs' gs → Q (.ref a) H')
/-! ### records -/
def sp_is_field (K : PySem.W.Frag) (A : Ads) : Sp := fun vs H Q _ => vs.length = 1 ∧ ∃ t bs, vs = [.ref t] ∧ SqL K H t (vBs bs) ∧ bs.length ≤ 20000 ∧ ∀ H', Same H H' → Q (.bl (Vaflxa.goodText 40 bs)) H'
def sp_is_record (K : PySem.W.Frag) (A : Ads) : Sp := fun vs H Q _ => vs.length = 1 ∧ ∃ a ts, vs = [.ref a] ∧ RecAt H a ts ∧ (∀ t ∈ ts, t.length ≤ 20000) ∧ ts.length ≤ 20000 ∧ ∀ H', Same H H' → Q (.bl (Vaflxa.goodRecord ts)) H'
def sp_split_texts (K : PySem.W.Frag) (A : Ads) : Sp := fun vs H Q _ => vs.length = 1 ∧ ∃ a ns ts S, vs = [.ref a] ∧ Same S H ∧ SqL K S a (ns.map V.int) ∧ ns.length ≤ 20000 ∧ VaflxkNeutral.texts? ns.length ns = some ts ∧ ∀ S' b H', Grow nobody S H S' H' → RecAt S' b ts → Q (.ref b) H'
def sp_told_record (K : PySem.W.Frag) (A : Ads) : Sp := fun vs H Q _ => vs.length = 1 ∧ ∃ a r, vs = [.ref a] ∧ RecAt H a r ∧ (∀ t ∈ r, t.length ≤ 1000) ∧ r.length ≤ 1000 ∧
  ∀ p, H p = none → Q (.ref p) (upd H p (.lst ((Vaflxk.nat r.length :: r.flatMap Vaflxk.counted).map V.int)))
/-! ### calls -/
/-- a call, as PyFlat tells it: its number and its whole numbers, then its rows -/
def CallAt (A : Ads) (S : Hp) (a : Addr) (c : List (List Int)) : Prop := ∃ dx an ar k ns row, S a = some (.ins A.c_Call dx (fs_Call (.int k) (.ref an) (.ref ar))) ∧ S an = some (.lst (ns.map V.int)) ∧ S ar = some (.lst (row.map V.int)) ∧
  (c = [k :: ns] ∧ row = [] ∨ c = [k :: ns, row])
def IsCall (A : Ads) (S : Hp) (v : V) (c : List (List Int)) : Prop := ∃ a, v = .ref a ∧ CallAt A S a c
def sp_split_calls (K : PySem.W.Frag) (A : Ads) : Sp := fun vs H Q _ => vs.length = 1 ∧ ∃ a ns cs S, vs = [.ref a] ∧ Same S H ∧ SqL K S a (ns.map V.int) ∧ ns.length ≤ 20000 ∧ PyFlat.calls PyVaflxk.shape ns.length ns = some cs ∧
  ∀ S' b H' vs', Grow nobody S H S' H' → S' b = some (.lst vs') → Paired (IsCall A S') vs' cs → Q (.ref b) H'
end Oe
namespace Oe
open PySem PySem.Spec PyProof.Rows L2
/-! ### a value that is a def, called -/
def IsDef (tb : Addr → Sp → Prop) (x : V) (N : Sp → Prop) : Prop := ∃ f sp, x = .ref f ∧ tb f sp ∧ N sp
def tCallV (tb : Addr → Sp → Prop) (E : L2.St → XK) (ta : TE) (t : TA) : TE := fun σ H Q => ta σ H fun x H1 => IsDef tb x fun sp => t σ H1 fun vs H2 => sp vs H2 Q (E σ)
def tDefS (sp : Sp) (E : L2.St → XK) (t : TA) : TE := fun σ H Q => t σ H fun vs H1 => sp vs H1 Q (E σ)
section
variable {X : Cx} {CX : CXT} {k : Nat} {ps : List Str} {sp : Sp} {E : L2.St → XK} {x : Str} {p pos : Pos} {e func : Expr} {es : List Expr} {ta : TE} {t : TA}
theorem pe_callV {tb : Addr → Sp → Prop} (D : ∀ f sp, tb f sp → ∃ fd ps, FnOk X.prog X.w X.K X.mg X.base CX k f fd ps sp ∧ PySem.W.keepIn X.K (.ref f) = true ∧ Binds X.K fd ps []) (hr : Room k X.A) (hx : ∀ σ, PassesAt CX X σ (E σ)) (hf : PE X func ta) (ha : PA X (e :: es) t)
    (hst : starEach (e :: es) X.env = (false, eval e X.env) :: starEach es X.env := by rfl) (hpl : (backTo pos (starEach es X.env)).any (·.1) = false := by rfl)
    (hc : eval (.Call func (e :: es) [] pos) X.env = (do callWith pos (← eval func X.env) [] (backTo pos (starEach (e :: es) X.env)) (backToKw pos (keywordEach [] X.env))) := by rfl) : PE X (.Call func (e :: es) [] pos) (tCallV tb E ta t) := by
  refine ⟨fun pins s σ H Q I h => ?_⟩
  refine Call_ (thn (hf.run pins s σ H _ I h) fun u s1 ⟨x, H1, I1, rx, f, sp, ex, tc, q⟩ => ?_) hc
  subst ex
  obtain rfl : u = Value.ref f := rx
  obtain ⟨fd, ps, F, hk, hb⟩ := D f sp tc
  refine PySem.W.callWith_K (h₀ := X.base) I1.ok.mod.kin hk (thn (ha.run pos pins s1 σ H1 _ I1 q) fun us s2 ⟨vs, H2, I2, r, q2⟩ => ⟨I2.kIn, ?_⟩) hst hpl
  exact run_fnS F hr hb (hx σ) I2 r q2
theorem pe_defS (D : DefOk X.prog X.w X.K X.mg X.base CX k x ps sp) (hr : Room k X.A) (hx : ∀ σ, PassesAt CX X σ (E σ)) (ha : PA X (e :: es) t) (hg : Gl X x := by rfl) (hdb : (x == ("__debug__" : Str)) = false := by decide)
    (he : starEach (e :: es) X.env = (false, eval e X.env) :: starEach es X.env := by rfl) (hpl : (backTo pos (starEach es X.env)).any (·.1) = false := by rfl) : PE X (.Call (.Name x p) (e :: es) [] pos) (tDefS sp E t) := by
  obtain ⟨f, fd, F, hm, hk, hb⟩ := D.ex
  exact ⟨fun pins s σ H Q I h => (pe_callS F hr hg hm hk hb hx ha hdb he hpl).run pins s σ H Q I h⟩
end
/-! ### a dict of the top, its keys whole numbers, its values defs -/
def WrD (K : PySem.W.Frag) (a : Addr) (kvs : List (Int × Addr)) : Prop := ∃ es n, K.lookup a = some ⟨.type "dict", none, .dict es n, #[]⟩ ∧ (a == sysModules) = false ∧ (kvs.map (·.1)).Nodup ∧
  Paired (fun (e : DictEntry) (kv : Int × Addr) => e.hash = hashInt kv.1 ∧ (∃ t, e.key = .int kv.1 t) ∧ e.val = .ref kv.2) es.toList kvs
def atD (kvs : List (Int × Addr)) (k : Int) : Option Addr := (kvs.find? fun kv => kv.1 = k).map (·.2)
theorem WrD.dict {prog : Program} {w : World} {K : PySem.W.Frag} {h : Heap} {a : Addr} {kvs : List (Int × Addr)} (d : WrD K a kvs) (X : K.In h) : h.DictOf (mixKind prog w) a (kvs.map fun kv => ((Sum.inl kv.1 : Key), Value.ref kv.2)) := by
  obtain ⟨es, n, l, _, nd, r⟩ := d
  refine ⟨_, es, n, X _ _ l, ⟨rfl, rfl, rfl⟩, rfl, ?_, ?_, ?_⟩
  · intro e he
    have key : ∀ {l : List DictEntry} {m : List (Int × Addr)}, Paired (fun (e : DictEntry) (kv : Int × Addr) => e.hash = hashInt kv.1 ∧ (∃ t, e.key = .int kv.1 t) ∧ e.val = .ref kv.2) l m → e ∈ l → ∃ k, (mixKind prog w).is k e.key = true ∧ e.hash = (mixKind prog w).hash k := by
      intro l m r
      induction r with
      | nil => intro z; cases z
      | cons q _ ih =>
        intro z
        rcases List.mem_cons.mp z with rfl | z
        · obtain ⟨q1, ⟨t, q2⟩, q3⟩ := q
          exact ⟨Sum.inl _, by rw [q2]; exact mixKind_int prog w _ t, q1⟩
        · exact ih z
    exact key r (Array.mem_toList_iff.mpr he)
  · clear nd l
    generalize es.toList = ls at r ⊢
    induction r with
    | nil => exact .nil
    | cons q _ ih =>
      obtain ⟨q1, ⟨t, q2⟩, q3⟩ := q
      exact .cons (by rw [q2]; exact mixKind_int prog w _ t) q3 ih
  · rw [List.map_map]
    have e : ((fun x : Key × Value => x.1) ∘ fun kv : Int × Addr => ((Sum.inl kv.1 : Key), Value.ref kv.2)) = (Sum.inl : Int → Key) ∘ fun kv : Int × Addr => kv.1 := rfl
    rw [e, ← List.map_map]
    exact List.Pairwise.map _ (fun _ _ z y => z (Sum.inl.inj y)) nd
theorem atD_val (kvs : List (Int × Addr)) (k : Int) : valueAt (kvs.map fun kv => ((Sum.inl kv.1 : Key), Value.ref kv.2)) (Sum.inl k) = (atD kvs k).map Value.ref := by
  unfold valueAt atD
  induction kvs with
  | nil => rfl
  | cons kv r ih =>
    rw [List.map_cons, List.find?_cons, List.find?_cons]
    by_cases h : kv.1 = k
    · have h2 : (Sum.inl kv.1 : Key) = Sum.inl k := by rw [h]
      rw [decide_eq_true h, decide_eq_true h2]
      rfl
    · have h2 : ¬ (Sum.inl kv.1 : Key) = Sum.inl k := fun z => h (Sum.inl.inj z)
      rw [decide_eq_false h, decide_eq_false h2]
      exact ih
/-- d[k], d such a dict -/
def IsDGet (K : PySem.W.Frag) (x y : V) (H : Hp) (Q : VK) : Prop := ∃ a kvs k f, x = .ref a ∧ y = .int k ∧ WrD K a kvs ∧ atD kvs k = some f ∧ Q (.ref f) H
def tDWr (K : PySem.W.Frag) (td ty : TE) : TE := fun σ H Q => td σ H fun x H1 => ty σ H1 fun y H2 => IsDGet K x y H2 Q
def rDNot (K : PySem.W.Frag) (neg : Bool) : R2 := fun y x H Q => ∃ a kvs k, x = .ref a ∧ y = .int k ∧ WrD K a kvs ∧ Q (.bl (if neg then !(atD kvs k).isSome else (atD kvs k).isSome)) H
section
variable {X : Cx} {o i : Expr} {pos : Pos} {td ty : TE}
theorem pe_dwr (ho : PE X o td) (hi : PE X i ty) (hs : NoSl i) : PE X (.Subscript o i pos) (tDWr X.K td ty) := by
  refine ⟨fun pins s σ H Q I h => ?_⟩
  refine subD_of PySem.F.slot_dict_getitem.lookup hs (thn (ho.run pins s σ H _ I h) fun u s1 ⟨x, H1, I1, rx, q1⟩ => thn (hi.run pins s1 σ H1 _ I1 q1) fun iv s2 ⟨y, H2, I2, ry, a, kvs, k, f, ex, ey, g, l, q2⟩ => ?_)
  subst ex
  subst ey
  obtain rfl : u = Value.ref a := rx
  have dd := g.dict (prog := X.prog) (w := X.w) I2.kIn
  refine ⟨dd.typeIs, wpAny_getItem_of (kV_is (k := Sum.inl k) ry) dd.mapOf (v := .ref f) ?_ ⟨.ref f, H2, I2.tok _, rfl, q2⟩⟩
  show valueAt _ _ = _
  rw [atD_val, l]
  rfl
theorem op_dwr_in : OpR X (compareOp .In) (rDNot X.K false) := by
  intro pins s σ H x y u v Q I rx ry h
  obtain ⟨a, kvs, k, ex, ey, g, q⟩ := h
  subst ex
  subst ey
  cases (show v = Value.ref a from ry)
  have dd := g.dict (prog := X.prog) (w := X.w) I.kIn
  obtain ⟨es, n, _, hsm, _⟩ := g
  refine wpAny_in_of (kV_is (k := Sum.inl k) rx) hsm dd.mapOf ⟨_, H, I.tok _, ?_, q⟩
  show Value.bool (valueAt _ _).isSome = Value.bool _
  rw [atD_val]
  cases atD kvs k <;> rfl
end
structure MkOk (P : Program) (w : World) (K : PySem.W.Frag) (mg : Str → Option Value) (base : Heap) (k : Nat) (C : Addr) (x : Str) (ps : List Str) (sp : Sp) : Prop where
  ex : ∃ f fd, FnOk P w K mg base CX0 k f fd ps sp ∧ mg x = some (.ref C) ∧ Mk K C f ∧ Binds K fd ps []
theorem pe_mk0 {X : Cx} {k : Nat} {C : Addr} {x : Str} {ps : List Str} {sp : Sp} {p pos : Pos} (D : MkOk X.prog X.w X.K X.mg X.base k C x ps sp) (hr : Room (k + 1) X.A) (hg : Gl X x := by rfl) (hdb : (x == ("__debug__" : Str)) = false := by decide) : PE X (.Call (.Name x p) [] [] pos) (tMake C sp [] E0 tNil) := by
  obtain ⟨f, fd, F, hm, M, hb⟩ := D.ex
  exact pe_make0 M F hr hg hm hb .nil pass0 hdb
end Oe
namespace Oe
open PySem PySem.Spec PyProof.Rows L2
open Vaflxa (Cls Case Piece At Res)
/-- a record -/
def IsRec (S : Hp) (v : V) (r : Vaflxk.Record) : Prop := ∃ a, v = .ref a ∧ RecAt S a r
theorem IsRec.mono {S S' : Hp} {v : V} {r : Vaflxk.Record} (h : IsRec S v r) (e : Same S S') : IsRec S' v r := by
  obtain ⟨a, rfl, q⟩ := h
  exact ⟨a, rfl, q.mono e⟩
/-- what holds of every state that is reached -/
structure StOk (s : Vaflxk.State) : Prop where
  good : Vaflxa.goodRecord s.record = true
  past : ∀ r ∈ s.past, Vaflxa.goodRecord r = true
  fifty : s.past.length ≤ 50
/-- the object at dk, its past at pa; S: what never changes -/
structure DeskAt (K : PySem.W.Frag) (A : Ads) (S H : Hp) (dk dx pa : Addr) (s : Vaflxk.State) : Prop where
  ex : ∃ pr rc vs, H dk = some (.ins A.c_Desk dx (fs_Desk (.ref pr) (.ref rc) (.ref pa))) ∧ H pa = some (.lst vs) ∧ ProgAt K A S pr s.program ∧ RecAt S rc s.record ∧ Paired (IsRec S) vs s.past
  hS : Same S H
  nd : S dk = none
  np : S pa = none
  ok : StOk s
def two (a b : Addr) : Addr → Prop := fun x => x = a ∨ x = b
/-- an answer -/
def vI (l : List Int) : List V := l.map V.int
/-- a call is answered: as the specification's step does with k -/
def spAnswer (K : PySem.W.Frag) (A : Ads) (kind : Vaflxk.Call → Prop) (row : Vaflxk.Call → Hp → Addr → Prop) (good : Vaflxk.State → Vaflxk.Call → Prop) : Sp := fun vs H Q _ => vs.length = 2 ∧ ∃ dk dx pa ca s k S, vs = [.ref dk, .ref ca] ∧ DeskAt K A S H dk dx pa s ∧ kind k ∧ row k S ca ∧ good s k ∧
  ∀ S' H' pa' a, Grow (two dk pa) S H S' H' → DeskAt K A S' H' dk dx pa' (Vaflxk.step s k).1 → (pa' = pa ∨ H pa' = none) → H' a = some (.lst (vI (Vaflxk.step s k).2)) → H a = none → a ≠ pa' → Q (.ref a) H'
/-- the same, where no output is told by an error -/
def spAnswerX (K : PySem.W.Frag) (A : Ads) (kind : Vaflxk.Call → Prop) (row : Vaflxk.Call → Hp → Addr → Prop) : Sp := fun vs H Q E => vs.length = 2 ∧ ∃ dk dx pa ca s k S, vs = [.ref dk, .ref ca] ∧ DeskAt K A S H dk dx pa s ∧ kind k ∧ row k S ca ∧
  (∀ i, Vaflxa.run s.record s.program = .error i → ∀ H' d, Same H H' → H' d = some (.xd (PySem.OeX.fo_NoOutput [.int (i : Nat)])) → E (.ref A.c_NoOutput) (some d) H') ∧
  (∀ o, Vaflxa.run s.record s.program = .ok o → ∀ S' H' pa' a, Grow (two dk pa) S H S' H' → DeskAt K A S' H' dk dx pa' (Vaflxk.step s k).1 → (pa' = pa ∨ H pa' = none) → H' a = some (.lst (vI (Vaflxk.step s k).2)) → H a = none → a ≠ pa' → Q (.ref a) H')
/-- the call object: its numbers, its row -/
def CallIs (A : Ads) (S : Hp) (ca : Addr) (ns row : List Int) : Prop := ∃ dx an ar kd, S ca = some (.ins A.c_Call dx (fs_Call (.int kd) (.ref an) (.ref ar))) ∧ S an = some (.lst (vI ns)) ∧ S ar = some (.lst (vI row))
def rowProgram (A : Ads) (k : Vaflxk.Call) (S : Hp) (ca : Addr) : Prop := match k with
  | .program p => CallIs A S ca [] (Vaflxk.numbers p) ∧ p.length ≤ 20000
  | _ => False
def rowRecord (A : Ads) (k : Vaflxk.Call) (S : Hp) (ca : Addr) : Prop := match k with
  | .record r => ∃ row, CallIs A S ca [] row ∧ row.length ≤ 20000 ∧ VaflxkNeutral.texts? row.length row = some r
  | _ => False
def rowNone (A : Ads) (c : Vaflxk.Call) (k : Vaflxk.Call) (S : Hp) (ca : Addr) : Prop := k = c
def rowPiece (A : Ads) (k : Vaflxk.Call) (S : Hp) (ca : Addr) : Prop := match k with
  | .piece i => ∃ row, CallIs A S ca [i] row
  | _ => False
def anyK : Vaflxk.Call → Prop := fun _ => True
def sp_answer_program (K : PySem.W.Frag) (A : Ads) : Sp := spAnswer K A anyK (rowProgram A) (fun _ _ => True)
def sp_answer_record (K : PySem.W.Frag) (A : Ads) : Sp := spAnswer K A anyK (rowRecord A) (fun _ _ => True)
def sp_answer_fields (K : PySem.W.Frag) (A : Ads) : Sp := spAnswer K A anyK (rowNone A .fields) (fun _ _ => True)
def sp_answer_undo (K : PySem.W.Frag) (A : Ads) : Sp := spAnswer K A anyK (rowNone A .undo) (fun _ _ => True)
def sp_answer_output (K : PySem.W.Frag) (A : Ads) : Sp := spAnswerX K A anyK (rowNone A .output)
def sp_answer_sources (K : PySem.W.Frag) (A : Ads) : Sp := spAnswerX K A anyK (rowNone A .sources)
def sp_answer_piece (K : PySem.W.Frag) (A : Ads) : Sp := spAnswerX K A anyK (rowPiece A)
/-! ### the whole -/
def sp_Desk_init (K : PySem.W.Frag) (A : Ads) : Sp := fun vs H Q _ => vs.length = 1 ∧ ∃ p dx, vs = [.ref p] ∧ H p = some (.ins A.c_Desk dx []) ∧
  ∀ H' pr rc r0 pa, H' p = some (.ins A.c_Desk dx (fs_Desk (.ref pr) (.ref rc) (.ref pa))) → H pr = none → H rc = none → H r0 = none → H pa = none → H' pr = some (.lst []) → H' rc = some (.lst [.ref r0]) → H' r0 = some (.lst []) → H' pa = some (.lst []) → pa ≠ pr → pa ≠ rc → pa ≠ r0 →
    (∀ b o, H b = some o → b ≠ p → H' b = some o) → Q .non H'
def askedC (c : List (List Int)) : Prop := VaflxkNeutral.asked1 c = true ∧ (VaflxkNeutral.callOf c).isSome = true ∧ PyInside.call PyVaflxk.bound c = true
def sp_answer_call (K : PySem.W.Frag) (A : Ads) : Sp := fun vs H Q _ => vs.length = 2 ∧ ∃ dk dx pa ca s c S, vs = [.ref dk, .ref ca] ∧ DeskAt K A S H dk dx pa s ∧ CallAt A S ca c ∧ askedC c ∧ (VaflxkNeutral.step s c).2.length ≤ 10000000 ∧
  ∀ S' H' pa' a, Grow (two dk pa) S H S' H' → DeskAt K A S' H' dk dx pa' (VaflxkNeutral.step s c).1 → (pa' = pa ∨ H pa' = none) → H' a = some (.lst (vI (VaflxkNeutral.step s c).2)) → H a = none → a ≠ pa' → Q (.ref a) H'
/-- answers: a list of whole numbers is handed in, the specification's list comes out -/
def sp_answers (K : PySem.W.Frag) (A : Ads) : Sp := fun vs H Q _ => vs.length = 1 ∧ ∃ a l, vs = [.ref a] ∧ SqL K H a (l.map V.int) ∧ l.length ≤ 20000 ∧ PyVaflxk.answers_asked l = true ∧ ∀ (H' : Hp) (p : Addr), H' p = some (.lst (vI (PyVaflxk.answers l))) → Q (.ref p) H'
end Oe
namespace Oe
open PySem PySem.Spec PyProof.Rows L2
/-! ### a < b < c < d -/
def tChain3 (r1 r2 r3 : R2) (ta tb tc td : TE) : TE := fun σ H Q => ta σ H fun x H1 => tb σ H1 fun y H2 => r1 x y H2 fun u H3 => ∃ k, u = .bl k ∧
  (if k = true then tc σ H3 fun z H4 => r2 y z H4 fun u2 H5 => ∃ k2, u2 = .bl k2 ∧ (if k2 = true then td σ H5 fun w H6 => r3 z w H6 Q else Q (.bl false) H5) else Q (.bl false) H3)
section
variable {X : Cx} {a b c d : Expr} {ta tb tc td : TE} {pos : Pos}
theorem pt_chain3 {o1 o2 o3 : CmpOp} {r1 r2 r3 : R2} (h1 : OpR X (compareOp o1) r1) (h2 : OpR X (compareOp o2) r2) (h3 : OpR X (compareOp o3) r3) (ha : PE X a ta) (hb : PE X b tb) (hc : PE X c tc) (hd : PE X d td)
    (hm : lastMarks [o1, o2, o3] [b, c, d] = false := by with_unfolding_all rfl) : PT X (.Compare a [o1, o2, o3] [b, c, d] pos) (tTest (tChain3 r1 r2 r3 ta tb tc td)) := by
  constructor
  intro pins s σ H Q I h
  refine isTrue_chain (thn (ha.run pins s σ H _ I h) ?_) hm
  rintro v1 s1 ⟨x1, H1, I1, e1, q1⟩
  refine test_link (thn (hb.run pins s1 σ H1 _ I1 q1) ?_)
  rintro v2 s2 ⟨x2, H2, I2, e2, q2⟩
  refine thn (h1 pins s2 σ H2 x1 x2 v1 v2 _ I2 e1 e2 q2) ?_
  rintro v3 s3 ⟨x3, H3, I3, e3, k1, rfl, q3⟩
  obtain rfl := e3
  refine wpAny_truthy_bool ?_
  cases k1 with
  | false =>
    obtain ⟨k9, e9, q9⟩ := q3
    obtain rfl : k9 = false := by cases e9; rfl
    exact ite_ff ⟨H3, I3, q9⟩
  | true =>
    refine ite_tt (test_link (thn (hc.run pins s3 σ H3 _ I3 q3) ?_))
    rintro v4 s4 ⟨x4, H4, I4, e4, q4⟩
    refine thn (h2 pins s4 σ H4 x2 x4 v2 v4 _ I4 e2 e4 q4) ?_
    rintro v5 s5 ⟨x5, H5, I5, e5, k2, rfl, q5⟩
    obtain rfl := e5
    refine wpAny_truthy_bool ?_
    cases k2 with
    | false =>
      obtain ⟨k9, e9, q9⟩ := q5
      obtain rfl : k9 = false := by cases e9; rfl
      exact ite_ff ⟨H5, I5, q9⟩
    | true =>
      refine ite_tt (test_last (thn (hd.run pins s5 σ H5 _ I5 q5) ?_))
      rintro v6 s6 ⟨x6, H6, I6, e6, q6⟩
      refine thn (h3 pins s6 σ H6 x4 x6 v4 v6 _ I6 e4 e6 q6) ?_
      rintro v7 s7 ⟨x7, H7, I7, e7, k3, rfl, q7⟩
      obtain rfl := e7
      exact wpAny_truthy_bool ⟨H7, I7, q7⟩
end
theorem w_chain3 {r1 r2 r3 : R2} {ta tb tc td : TE} {σ : L2.St} {H : Hp} {Q : VK} (h : ta σ H fun x H1 => tb σ H1 fun y H2 => r1 x y H2 fun u H3 => IsBl u H3 fun k H3 => if k = true then tc σ H3 fun z H4 => r2 y z H4 fun u2 H5 => IsBl u2 H5 fun k2 H5 => if k2 = true then td σ H5 fun w H6 => r3 z w H6 Q else Q (.bl false) H5 else Q (.bl false) H3) :
    tChain3 r1 r2 r3 ta tb tc td σ H Q := h
/-! ### min of two -/
def rMin2 : List V → Hp → VK → Prop := fun xs H Q => ∃ i j, xs = [.int i, .int j] ∧ Q (.int (if j < i then j else i)) H
theorem c_min2 {X : Cx} (hc : X.calm = true) : CallR X (.builtin "min") rMin2 := call_min2 hc
theorem w_min2 {m n : Nat} {H : Hp} {Q : VK} (q : Q (.int (min m n : Nat)) H) : rMin2 [.int (m : Nat), .int (n : Nat)] H Q := by
  refine ⟨_, _, rfl, ?_⟩
  by_cases h : (n : Int) < (m : Int)
  · rw [if_pos h]
    rw [Nat.min_eq_right (by omega)] at q
    exact q
  · rw [if_neg h]
    rw [Nat.min_eq_left (by omega)] at q
    exact q
/-! ### own errors without __init__ -/
structure PErr (K : PySem.W.Frag) (mg : Str → Option Value) (C : Addr) (cn : Str) : Prop where
  ex : PySem.W.excIn K C [.type "Exception", .type "BaseException", .type "object"] "Exception.__new__" = true
  gl : mg cn = some (.ref C)
  kept : PySem.W.keepIn K (.ref C) = true
  sb : PySem.W.subIn K (.ref C) (.type "BaseException") = some true
  ty : PySem.W.typeIn K (.ref C) = some (.type "type")
theorem pmk_bare {X : Cx} {C : Addr} {cn : Str} {p pos : Pos} (D : PErr X.K X.mg C cn) (hg : Gl X cn) (hdb : (cn == ("__debug__" : Str)) = false := by decide) : PMk X (.Call (.Name cn p) [] [] pos) (fun _ H Q => Q (.ref C) none H) := by
  intro pins s σ H Q I h
  refine wpAny_Call_Name_kw (ld_glob I hg D.gl ?_ hdb)
  refine PySem.W.callWith_K0 I.kIn D.kept ?_
  obtain ⟨bm, N, nm, qn, bs, hdct, sn, sub, ab, col, dd, k0, k1, k2, k3, k5, mN, hC, hN, hni, T⟩ := exc_obj I.kIn D.ex
  refine wpAny_call_exc_subT PySem.F.excBase_Exception T hC hN hni (fun h' e hm => ?_) (Nat.zero_le _)
  exact mk_of I hm (raises_own D.sb D.ty) h (I.hok.gone hm.new)
/-- raise C(), C without __init__ -/
def tErr0 (C : Addr) (E : XK) : TS := fun _ _ H => E (.ref C) none H
theorem ps_err0 {X : Cx} {C : Addr} {cn : Str} {E : XK} {p pos pos2 : Pos} (D : PErr X.K X.mg C cn) (hc : X.calm = true) (tk : Takes X (fun cls d _ H => E cls d H)) (hg : Gl X cn := by rfl) (hdb : (cn == ("__debug__" : Str)) = false := by decide) :
    PS X (.Raise (some (.Call (.Name cn p) [] [] pos)) none pos2) (tErr0 C E) := ps_raise hc tk (pmk_bare D hg hdb)
theorem w_err0 {C : Addr} {E : XK} {D : Ends} {σ : L2.St} {H : Hp} (h : E (.ref C) none H) : tErr0 C E D σ H := h
/-! ### C(e, ..), its __init__ by a promise, it may raise -/
structure MkX (P : Program) (w : World) (K : PySem.W.Frag) (mg : Str → Option Value) (base : Heap) (CX : CXT) (k : Nat) (C : Addr) (x : Str) (ps : List Str) (sp : Sp) : Prop where
  ex : ∃ f fd, FnOk P w K mg base CX k f fd ps sp ∧ mg x = some (.ref C) ∧ Mk K C f ∧ Binds K fd ps []
def IsMade (C : Addr) (sp : Sp) (E : XK) (vs : List V) (H : Hp) (Q : VK) : Prop := ∀ x dx, H x = none → H dx = none → dx ≠ x → sp (.ref x :: (vs ++ [])) (upd (upd H dx (.own x)) x (.ins C dx [])) (fun v H2 => v = .non ∧ Q (.ref x) H2) E
def tMk (C : Addr) (sp : Sp) (E : XK) (t : TA) : TE := fun σ H Q => t σ H fun vs H1 => IsMade C sp E vs H1 Q
theorem pe_mkX {X : Cx} {CX : CXT} {k : Nat} {C : Addr} {x : Str} {ps : List Str} {sp : Sp} {E : XK} {p pos : Pos} {e : Expr} {es : List Expr} {t : TA} (D : MkX X.prog X.w X.K X.mg X.base CX k C x ps sp) (hr : Room (k + 1) X.A) (hx : Passes CX X E) (ha : PA X (e :: es) t) (hg : Gl X x := by rfl) (hdb : (x == ("__debug__" : Str)) = false := by decide)
    (he : starEach (e :: es) X.env = (false, eval e X.env) :: starEach es X.env := by rfl) (hpl : (backTo pos (starEach es X.env)).any (·.1) = false := by rfl) : PE X (.Call (.Name x p) (e :: es) [] pos) (tMk C sp E t) := by
  obtain ⟨f, fd, F, hm, M, hb⟩ := D.ex
  exact ⟨fun pins s σ H Q I h => (pe_make M F hr hg hm hb .nil hx ha hdb he hpl).run pins s σ H Q I h⟩
theorem w_mk {C : Addr} {sp : Sp} {E : XK} {t : TA} {σ : L2.St} {H : Hp} {Q : VK} (h : t σ H fun vs H1 => IsMade C sp E vs H1 Q) : tMk C sp E t σ H Q := h
/-! ### stores into lists, loops over range(i, j), pop(k) -/
def IsSet (o i v : V) (H : Hp) (N : Hp → Prop) : Prop := rSetL o i v H N
theorem w_gsub {to ti : TE} {v : V} {σ : L2.St} {H : Hp} {N : L2.St → Hp → Prop} (h : to σ H fun o H1 => ti σ H1 fun i H2 => IsSet o i v H2 fun H3 => N σ H3) : gSub to ti rSetL v σ H N := h
theorem w_setl {p : Addr} {xs : List V} {k j : Nat} {i : Int} {v : V} {H : Hp} {N : Hp → Prop} (hi : i = (j : Int)) (h : H p = some (.lst xs)) (hj : j < xs.length) (q : N (upd H p (.lst (xs.set j v)))) : IsSet (.ref p) (.int i) v H N := by
  subst hi
  refine ⟨p, xs, _, j, rfl, rfl, h, ?_, q⟩
  unfold ixN
  rw [if_pos (by omega)]
  first | rfl | (rw [if_pos (by omega)]; rfl) | (simp; omega)
theorem w_popAt {l : Addr} {x : V} {xs : List V} {H : Hp} {Q : VK} (h : H l = some (.lst (x :: xs))) (q : Q x (upd H l (.lst xs))) : rPopAt (.ref l) [.int 0] H Q :=
  ⟨l, x :: xs, 0, 0, x, rfl, rfl, h, by decide, by decide, seqIndex_of (k := 0) (by decide) (by rw [List.length_cons]; omega), rfl, q⟩
def IsForR2 (g : TG) (tb : TS) (D : Ends) (σ : L2.St) (vs : List V) (H1 : Hp) : Prop := ∃ i j : Int, vs = [.int i, .int j] ∧ (-(2 ^ 62) ≤ i ∧ i < 2 ^ 62 ∧ -(2 ^ 62) ≤ j ∧ j < 2 ^ 62) ∧ IsFor (Itr i (j - i).toNat) g tb D σ H1
theorem w_forr2 {σ : L2.St} {H : Hp} {ts : TA} {g : TG} {tb : TS} {D : Ends} (h : ts σ H fun vs H1 => IsForR2 g tb D σ vs H1) : tFor (iRng2 ts) g tb D σ H := h
theorem w_isforr2 {σ : L2.St} {H : Hp} {g : TG} {tb : TS} {D : Ends} {i j : Int} {n : Nat} (hn : j - i = (n : Int)) (hz : -1000000 ≤ i ∧ i ≤ 1000000 ∧ -1000000 ≤ j ∧ j ≤ 1000000) (Pv : Nat → L2.St → Hp → Prop) (h0 : Pv 0 σ H)
    (hs : ∀ m σ H, m < n → Pv m σ H → g (.int (i + (m : Nat))) σ H fun σ2 H2 => tb { D with nx := Pv (m + 1), ct := Pv (m + 1), bk := D.nx } σ2 H2) (hd : ∀ σ H, Pv n σ H → D.nx σ H) : IsForR2 g tb D σ [.int i, .int j] H := by
  refine ⟨i, j, rfl, ⟨by omega, by omega, by omega, by omega⟩, ?_⟩
  rw [hn]
  exact for_range (lo := i) (n := n) Pv h0 hs hd
/-! ### try with several clauses, one or two classes each, with a name or without -/
inductive Tst where
  | one (c : Value)
  | two (c d : Value)
def Tst.tells (K : PySem.W.Frag) (cls : Value) : Tst → Option Bool
  | .one c => PySem.W.exmOne K cls c
  | .two c d => PySem.W.exmAny K cls [c, d]
structure Cl where
  test : Tst
  slot : Option Nat
  body : Addr → Value → Option Addr → TS
/-- the suite of a clause, behind its name is gone -/
def Cl.go (c : Cl) (a : Addr) (cls : Value) (d : Option Addr) (D : Ends) (σ : L2.St) (H : Hp) : Prop := match c.slot with
  | none => c.body a cls d D σ H
  | some i => c.body a cls d ⟨fun σ1 H1 => D.nx (σ1.set i none) H1, D.rt, fun σ1 H1 => D.bk (σ1.set i none) H1, fun σ1 H1 => D.ct (σ1.set i none) H1⟩ (σ.set i (some (.ref a))) H
def wMix (K : PySem.W.Frag) (Wout : WX) (D : Ends) : List Cl → WX
  | [] => Wout
  | c :: r => fun cls d σ H => ∃ y, c.test.tells K cls = some y ∧ (y = true → ∀ a, H a = none → c.go a cls d D σ H) ∧ (y = false → wMix K Wout D r cls d σ H)
inductive TstOk (X : Cx) : Expr → Tst → Prop
  | one {x : Str} {c : Value} {p : Pos} (n : Names X x c) : TstOk X (.Name x p) (.one c)
  | two {x y : Str} {c d : Value} {p q r : Pos} {k : Nat} (n : Names X x c) (m : Names X y d) : TstOk X (.Tuple [.Name x p, .Name y q] k r) (.two c d)
inductive HdsM (X : Cx) : List ExceptHandler → List Cl → Prop
  | nil : HdsM X [] []
  | no {te : Expr} {t : Tst} {ts : Addr → Value → Option Addr → TS} {b : Stmt} {bs : List Stmt} {p : Pos} {hs : List ExceptHandler} {l : List Cl} (ht : TstOk X te t)
      (hb : ∀ (a : Addr) (o : Obj) (cls : Value) (d : Option Addr) (pn : List (Addr × Obj)), Zc cls d o → (∃ vs, o.data = .fields vs) → PSs (X.suite a ((a, o) :: pn)) (b :: bs) (ts a cls d)) (r : HdsM X hs l) : HdsM X (.ExceptHandler (some te) none (b :: bs) p :: hs) (⟨t, none, ts⟩ :: l)
  | nm {te : Expr} {t : Tst} {i : Nat} {n : Str} {ts : Addr → Value → Option Addr → TS} {b : Stmt} {bs : List Stmt} {p : Pos} {hs : List ExceptHandler} {l : List Cl} (ht : TstOk X te t) (hi : X.N[i]? = some n) (hl : X.env.kindOf n = some .local)
      (hb : ∀ (a : Addr) (o : Obj) (cls : Value) (d : Option Addr) (pn : List (Addr × Obj)), Zc cls d o → (∃ vs, o.data = .fields vs) → PSs (X.suite a ((a, o) :: pn)) (b :: bs) (ts a cls d)) (r : HdsM X hs l) : HdsM X (.ExceptHandler (some te) (some n) (b :: bs) p :: hs) (⟨t, some i, ts⟩ :: l)
theorem flying_push {B h : Heap} {l : List Env} {e : Addr} {Z : Obj → Prop} (o : Obj) (f : HandSPX.FlyingZ B l e Z h) : HandSPX.FlyingZ B l e Z (h.push o) := by
  obtain ⟨f1, f2, f3, oe, vs, T, oT, ts, a1, a2, a3, a4, a5, a6, a7, a8, a9⟩ := f
  have kp : ∀ q u, h.get? q = some u → (h.push o).get? q = some u := fun q u z => Heap.get?_push_of_some _ z
  exact ⟨fun q u z => kp q u (f1 q u z), f2, f3.of_keeps fun q u z _ => ⟨u, kp q u z, rfl⟩, oe, vs, T, oT, ts, kp _ _ a1, a2, a3, a4, a5, a6, kp _ _ a7, a8, a9⟩
section
variable {X : Cx} {pins : List (Addr × Obj)} {σ : L2.St} {H : Hp} {D : Ends} {Wout : WX}
/-- the class of a clause, looked up -/
theorem name_is {x : Str} {c : Value} {p : Pos} {a : Addr} {pn : List (Addr × Obj)} {s : Shared} {Q : Value → Shared → Prop} {E : Value → Shared → Prop} (n : Names X x c) (S : Inv (X.suite a pn) [] σ H s) (h : Q c s) : wpAny (model X.prog X.w) (X.A.mark (some (.ref a))) (eval (.Name x p) X.env) Q E s := by
  rcases n with ⟨n1, n2, n3 | ⟨n4, n5, n6⟩⟩
  · exact ld_glob (X := X.suite a pn) S n1 n3 h n2
  · exact ld_blt (X := X.suite a pn) S n1 n4 n5 h n6 n2
/-- a clause's test: it tells y, and the heap is as it was or has the new pair -/
theorem test_is {te : Expr} {t : Tst} {a : Addr} {cls : Value} {y : Bool} {pn : List (Addr × Obj)} {s : Shared} {Q : Bool → Shared → Prop} {E : Value → Shared → Prop} (ht : TstOk X te t) (S : Inv (X.suite a pn) [] σ H s)
    (look : PySem.W.Looks (model X.prog X.w) s.heap (typeOf (.ref a)) cls) (hy : t.tells X.K cls = some y) (q : ∀ h, (h = s.heap ∨ ∃ o, h = s.heap.push o) → Q y { s with heap := h }) :
    wpAny (model X.prog X.w) (X.A.mark (some (.ref a))) (eval te X.env) (fun c s1 => wpAny (model X.prog X.w) (X.A.mark (some (.ref a))) (excMatches (.ref a) c) Q E s1) E s := by
  cases ht with
  | one n => exact name_is n S ((PySem.W.exm_one S.kIn look hy).here (q _ (Or.inl rfl)))
  | @two x1 x2 c1 c2 p1 p2 p3 k n m =>
    refine wpAny_Tuple (wpAny_items_cons (name_is n S (wpAny_items_cons (name_is m S (wpAny_items_nil ⟨by size_fits, ?_⟩)))))
    have kp : ∀ b u, s.heap.get? b = some u → (s.heap.push { cls := .type "tuple", data := .seq [c1, c2].toArray }).get? b = some u := fun b u z => Heap.get?_push_of_some _ z
    exact (PySem.W.exm_tup2 (S.kIn.keeps kp) (look.keeps kp) (Heap.get?_push_size s.heap rfl) hy).here (q _ (Or.inr ⟨_, rfl⟩))
/-- the clauses, one after another -/
theorem clauses_are {hs : List ExceptHandler} {l : List Cl} (hk : HdsM X hs l) (two : X.stack = X.env :: X.outer) (fr : X.env.frame = some X.env.locals) (nd : X.N.Nodup) (tk : Takes X Wout) {sI s' : Shared} {B : Heap} {a : Addr} {cls : Value} {d : Option Addr} (J : Inv X pins σ H sI)
    (nb : ∀ b o, sI.heap.get? b = some o → b ∉ frs X.stack → B.get? b = some o) (na : H a = none) (os : s'.os = sI.os) (ag : AllBare s'.gens) :
    ∀ h, HandSPX.FlyingZ B (X.env :: X.outer) a (Zc cls d) h → sI.heap.UpToSlots h → wMix X.K Wout D l cls d σ H → wpAny (model X.prog X.w) X.A (handleBy (.ref a) X.env hs) (SP X pins D) X.xe { s' with heap := h } := by
  -- where a clause stands: the object, and the suite's context
  have there : ∀ h, HandSPX.FlyingZ B (X.env :: X.outer) a (Zc cls d) h → sI.heap.UpToSlots h → ∃ o, h.get? a = some o ∧ Zc cls d o ∧ (∃ vs, o.data = .fields vs) ∧ Inv (X.suite a ((a, o) :: (X.pn ++ pins))) [] σ H { s' with heap := h } := by
    intro h f up
    have J2 : Inv X pins σ H { s' with heap := h } := J.landed nb f.1 up os ag
    obtain ⟨o, vs, g1, g2, g3⟩ := f.there
    have out : a ∉ frs (X.env :: X.outer) := fun z => by
      obtain ⟨_, o2, g4, g5⟩ := f.2.2.1.mem z
      rw [g1] at g4
      cases g4
      exact g5 _ g3
    refine ⟨o, g1, g2, ⟨vs, g3⟩, J2.suite g1 g3 na (fun z => out (List.mem_filterMap.mpr ⟨X.env, List.mem_cons_self, ?_⟩)) (fun z => ?_)⟩
    · rw [fr, z]
    · obtain ⟨e, e1, e2⟩ := List.mem_filterMap.mp z
      exact out (List.mem_filterMap.mpr ⟨e, List.mem_cons_of_mem _ e1, e2⟩)
  have looks : ∀ {h : Heap} {o : Obj}, h.get? a = some o → Zc cls d o → PySem.W.Looks (model X.prog X.w) h (typeOf (.ref a)) cls := fun {h o} g z M Q E s k q => wpAny_typeOf_ref (k _ _ g) (by rw [z.1]; exact q)
  have grown : ∀ {h h2 : Heap}, (h2 = h ∨ ∃ o, h2 = h.push o) → HandSPX.FlyingZ B (X.env :: X.outer) a (Zc cls d) h → sI.heap.UpToSlots h → HandSPX.FlyingZ B (X.env :: X.outer) a (Zc cls d) h2 ∧ sI.heap.UpToSlots h2 := by
    rintro h h2 (rfl | ⟨o, rfl⟩) f up
    · exact ⟨f, up⟩
    · exact ⟨flying_push o f, up.trans fun b u g _ => ⟨u.slots, Heap.get?_push_of_some _ g⟩⟩
  induction hk with
  | nil =>
    intro h f up w
    refine wpAny_handleBy_nil ?_
    have f0 := f
    obtain ⟨_, _, _, o, vs, T, oT, us, g1, _, g3, g4, _⟩ := f0
    unfold PySem.passOn
    refine wpAny_bind (wpAny_field g1 g3 g4 ?_)
    have nT : ¬ ((Value.ref T == Value.none) = true) := by simp
    rw [if_neg nT]
    have last : wpAny (model X.prog X.w) X.A (setFlight (.ref a) X.env.frame) (fun _ s2 => wpAny (model X.prog X.w) X.A (throw (.ref a) : Sem Flow) (SP X pins D) X.xe s2) X.xe { s' with heap := h } := by
      rw [fr]
      refine HandSPX.setFlight_upZ f fun h2 f2 up2 => wpAny_throw (tk _ _ ⟨a, B, sI, pins, σ, H, cls, d, rfl, J, nb, up.trans up2, Or.inr (Or.inr ?_), na, os, ag, w⟩)
      rw [two]
      exact f2
    first
      | exact wpAny_bind (wpAny_pure (wpAny_bind last))
      | exact wpAny_bind last
  | @no te t ts b bs p hs l ht hb r ih =>
    rintro h f up ⟨y, hy, w1, w2⟩
    refine wpAny_handleBy_cons (codeAny_handlers_test ?_) (fun z => by cases z)
    obtain ⟨o, g1, g2, _, S⟩ := there h f up
    refine test_is ht S (looks g1 g2) hy fun h2 hg => ?_
    obtain ⟨f2, up2⟩ := grown hg f up
    cases y with
    | false => exact ih h2 f2 up2 (w2 rfl)
    | true =>
      refine codeAny_handlers_suite (HandSPX.lands_againZ f2 fun h3 f3 up3 => ?_)
      obtain ⟨o3, g3, g4, g5, S3⟩ := there h3 f3 (up2.trans up3)
      refine wpAny_mono ((hb a o3 cls d (X.pn ++ pins) g4 g5).run [] _ _ H _ S3 (w1 rfl a na)) (fun fl s4 z => ?_) (fun _ _ z => z.elim)
      cases fl with
      | next => obtain ⟨σ4, H4, I4, z4⟩ := z; exact ⟨_, _, I4.unsuite J.ok, z4⟩
      | brk => obtain ⟨σ4, H4, I4, z4⟩ := z; exact ⟨_, _, I4.unsuite J.ok, z4⟩
      | cont => obtain ⟨σ4, H4, I4, z4⟩ := z; exact ⟨_, _, I4.unsuite J.ok, z4⟩
      | ret u => obtain ⟨v4, σ4, H4, I4, e4, z4⟩ := z; exact ⟨_, _, _, I4.unsuite J.ok, e4, z4⟩
  | @nm te t i n ts b bs p hs l ht hi hl hb r ih =>
    rintro h f up ⟨y, hy, w1, w2⟩
    refine wpAny_handleBy_cons (codeAny_handlers_test ?_) (fun z => by cases z)
    obtain ⟨o, g1, g2, _, S⟩ := there h f up
    refine test_is ht S (looks g1 g2) hy fun h2 hg => ?_
    obtain ⟨f2, up2⟩ := grown hg f up
    cases y with
    | false => exact ih h2 f2 up2 (w2 rfl)
    | true =>
      refine codeAny_handlers_suite_as (HandSPX.lands_againZ f2 fun h3 f3 up3 => ?_)
      obtain ⟨o3, g3, g4, g5, S3⟩ := there h3 f3 (up2.trans up3)
      refine store_ok (X := X.suite a ((a, o3) :: (X.pn ++ pins))) (v := .ref a) S3 nd hi (Or.inl hl) rfl (fun s5 S5 => ?_) (Or.inr hl)
      refine wpAny_mono ((hb a o3 cls d (X.pn ++ pins) g4 g5).run [] s5 _ H _ S5 (w1 rfl a na)) (fun fl s6 z => ?_) (fun _ _ z => z.elim)
      have off : ∀ {σ6 : L2.St} {H6 : Hp} {Q : Shared → Prop}, Inv (X.suite a ((a, o3) :: (X.pn ++ pins))) [] σ6 H6 s6 → (∀ s7, Inv X pins (σ6.set i none) H6 s7 → Q s7) → wpAny (model X.prog X.w) X.A (do bindName X.env n .none; unbindBehindTheSuite X.env n p) (fun _ s7 => Q s7) X.xe s6 := fun I6 q => gone_ok (I6.unsuite J.ok) nd hi hl q
      cases fl with
      | next => obtain ⟨σ6, H6, I6, z6⟩ := z; exact off I6 fun s7 I7 => ⟨_, _, I7, z6⟩
      | brk => obtain ⟨σ6, H6, I6, z6⟩ := z; exact off I6 fun s7 I7 => ⟨_, _, I7, z6⟩
      | cont => obtain ⟨σ6, H6, I6, z6⟩ := z; exact off I6 fun s7 I7 => ⟨_, _, I7, z6⟩
      | ret u => obtain ⟨v6, σ6, H6, I6, e6, z6⟩ := z; exact off I6 fun s7 I7 => ⟨_, _, _, I7, e6, z6⟩
end
theorem ps_try_mix {X : Cx} {bs : List Stmt} {h0 : ExceptHandler} {hs : List ExceptHandler} {l : List Cl} {pos : Pos} {tb : WX → TS} {Wout : WX} (two : X.stack = X.env :: X.outer) (fr : X.env.frame = some X.env.locals) (nd : X.N.Nodup) (tk : Takes X Wout)
    (hb : ∀ (W : WX) (pn : List (Addr × Obj)) (xe : Value → Shared → Prop), Takes (X.tr pn xe) W → PassesOwn (model X.prog X.w) X.A X.env xe → PSs (X.tr pn xe) bs (tb W)) (hh : HdsM X (h0 :: hs) l) :
    PS X (.Try bs (h0 :: hs) [] [] pos) (fun D σ H => tb (wMix X.K Wout D l) D σ H) := by
  constructor
  intro pins s σ H D I h
  have ok := I.ok
  have frm : X.A.frames = some (X.env :: X.outer) := by
    rw [← two]
    exact ok.frames
  refine wpAny_Try_except ?_
  let after : Value → Shared → Prop := fun e s1 => wpAny (model X.prog X.w) X.A (noteFrame e X.env) (fun _ s2 => wpAny (model X.prog X.w) X.A (setFlight e none) (fun _ s3 => wpAny (model X.prog X.w) X.A (handleBy e X.env (h0 :: hs)) (SP X pins D) X.xe s3) X.xe s2) X.xe s1
  have caught : Takes (X.tr (X.pn ++ pins) after) (wMix X.K Wout D l) := by
    rintro u s' ⟨a, B, sI, pins', σ', H', cls, d, rfl, J', nb, up, sky, na, os, ag, w⟩
    have J : Inv X pins σ' H' sI := Inv.ofTry J' ok
    have sky2 : Sky B (X.env :: X.outer) a (Zc cls d) X.env.locals s'.heap := by
      rw [← two]
      exact sky
    show wpAny (model X.prog X.w) X.A (noteFrame (Value.ref a) X.env) _ _ _
    exact Sky.land Zc.steady frm fr sky2 fun h3 f3 up3 => clauses_are hh two fr nd tk J nb na os ag h3 f3 (up.trans up3) w
  refine wpAny_mono ((hb (wMix X.K Wout D l) (X.pn ++ pins) after caught PassesOwn.looking).run [] s σ H D (I.toTry _) h) (fun fl s1 z => ?_) (fun e s1 z => z)
  cases fl with
  | next => obtain ⟨σ1, H1, I1, z1⟩ := z; exact wpAny_execs_nil ⟨σ1, H1, I1.ofTry ok, z1⟩
  | brk => obtain ⟨σ1, H1, I1, z1⟩ := z; exact ⟨σ1, H1, I1.ofTry ok, z1⟩
  | cont => obtain ⟨σ1, H1, I1, z1⟩ := z; exact ⟨σ1, H1, I1.ofTry ok, z1⟩
  | ret u => obtain ⟨v1, σ1, H1, I1, e1, z1⟩ := z; exact ⟨v1, σ1, H1, I1.ofTry ok, e1, z1⟩
end Oe
namespace Oe
open PySem PySem.Spec PyProof.Rows L2
open Vaflxa (Cls Case Piece At Res)
/-! ### the top's facts, looked up -/
section
variable (K : PySem.W.Frag)
/-- the i-th item of a tuple, if it is an object -/
def itemAt (a : Addr) (i : Nat) : Addr := match K.lookup a with
  | some ⟨_, _, .seq xs _, _⟩ => (match xs.toList[i]? with
    | some (.ref b) => b
    | _ => 0)
  | _ => 0
def refsN (a : Addr) (n : Nat) : List V := (List.range n).map fun i => V.ref (itemAt K a i)
def wrTB (a : Addr) (xs : List V) : Bool := match K.lookup a with
  | some ⟨.type c, _, .seq its _, _⟩ => decide (c = "tuple") && (decide (its.size ≤ 1000) && He.relAll xs its.toList)
  | _ => false
def allIx {β : Type} (f : Nat → β → Bool) : Nat → List β → Bool
  | _, [] => true
  | i, x :: l => f i x && allIx f (i + 1) l
def spansB (a : Addr) (l : List (Int × Int)) : Bool := wrTB K a (refsN K a l.length) && allIx (fun i p => wrTB K (itemAt K a i) [.int p.1, .int p.2]) 0 l
def shapesB (a : Addr) : Bool := wrTB K a (refsN K a shapeTab.length) && allIx (fun i p => wrTB K (itemAt K a i) [.int p.1, .bl p.2]) 0 shapeTab
def classesB (a : Addr) : Bool := wrTB K a (refsN K a classTab.length) && allIx (fun i p => wrTB K (itemAt K a i) [.str (sg p.1), .ref (itemAt K (itemAt K a i) 1)] && spansB K (itemAt K (itemAt K a i) 1) (spans p.2)) 0 classTab
def pairsB : List DictEntry → List (Int × Addr) → Bool
  | [], [] => true
  | e :: es, kv :: kvs => decide (e.hash = hashInt kv.1) && ((match e.key with
    | .int j _ => decide (j = kv.1)
    | _ => false) && ((match e.val with
    | .ref b => decide (b = kv.2)
    | _ => false) && pairsB es kvs))
  | _, _ => false
def dictB (a : Addr) (kvs : List (Int × Addr)) : Bool := match K.lookup a with
  | some ⟨.type c, none, .dict es _, sl⟩ => decide (c = "dict") && ((match sl.toList with
    | [] => true
    | _ => false) && (!(a == sysModules) && pairsB es.toList kvs))
  | _ => false
def excT : List Value := [.type "Exception", .type "BaseException", .type "object"]
def bareB (x : Str) : Bool := PySem.W.excIn K (He.ga K x) [.type "Exception", .type "BaseException", .type "object"] "Exception.__new__" && (decide (PySem.W.subIn K (.ref (He.ga K x)) (.type "BaseException") = some true) && decide (PySem.W.typeIn K (.ref (He.ga K x)) = some (.type "type")))
def clsB (x : Str) : Bool := match K.lookup (He.ga K x) with
  | some ⟨.type t, _, .cls cd, sl⟩ => decide (t = "type") && (decide (cd.mro = .ref (He.ga K x) :: PySem.OeX.exT) && (cd.hasDict && (!cd.hasDel && match sl.toList with
    | [_, _, _, _, some (.builtin n), _] => decide (n = "Exception.__new__")
    | _ => false)))
  | _ => false
def errB (x : Str) : Bool := clsB K x && (He.eqO (PySem.W.findIn K (.ref (He.ga K x)) "__setattr__") (some (some (.builtin "object.__setattr__"))) && (He.eqO (PySem.W.findIn K (.ref (He.ga K x)) "__getattribute__") (some (some (.builtin "BaseException.__getattribute__"))) &&
  (He.eqO (PySem.W.findIn K (.ref (He.ga K x)) "__getattr__") (some none) && (He.eqO (PySem.W.findIn K (.ref (He.ga K x)) "__init__") (some (some (.ref (He.ma K (He.ga K x) "__init__")))) && (decide (PySem.W.typeIn K (.ref (He.ma K (He.ga K x) "__init__")) = some (.type "function")) &&
  (PySem.W.keepIn K (.ref (He.ga K x)) && (decide (PySem.W.subIn K (.ref (He.ga K x)) (.type "BaseException") = some true) && (decide (PySem.W.typeIn K (.ref (He.ga K x)) = some (.type "type")) && (PySem.W.hasDictIn K (He.ga K x) && decide (PySem.W.exmOne K (.ref (He.ga K x)) (.ref (He.ga K x)) = some true))))))))))
end
section
variable {K : PySem.W.Frag}
theorem wrTB_ok {a : Addr} {xs : List V} (h : wrTB K a xs = true) : WrT K a xs := by
  unfold wrTB at h
  split at h
  · rename_i c d its n sl e
    rw [Bool.and_eq_true, Bool.and_eq_true, decide_eq_true_eq, decide_eq_true_eq] at h
    obtain ⟨rfl, h2, h3⟩ := h
    exact ⟨_, its, n, e, rfl, rfl, Nat.le_trans h2 (by decide), He.relAll_ok h3⟩
  · cases h
theorem allIx_ok {β : Type} {f : Nat → β → Bool} : ∀ {l : List β} {k i : Nat} {x : β}, allIx f k l = true → l[i]? = some x → f (k + i) x = true
  | [], _, _, _, _, z => by cases z
  | y :: l, k, 0, x, h, e => by
    obtain rfl := Option.some.inj e
    exact (Bool.and_eq_true_iff.mp h).1
  | y :: l, k, i + 1, x, h, e => by
    have := allIx_ok (k := k + 1) (i := i) (Bool.and_eq_true_iff.mp h).2 e
    rw [show k + (i + 1) = k + 1 + i by omega]
    exact this
theorem paired_by {α β : Type} {F : α → β → Prop} : ∀ {l : List α} {m : List β}, l.length = m.length → (∀ (i : Nat) (x : α) (y : β), l[i]? = some x → m[i]? = some y → F x y) → Paired F l m
  | [], [], _, _ => .nil
  | [], _ :: _, e, _ => nomatch e
  | _ :: _, [], e, _ => nomatch e
  | x :: l, y :: m, e, h => .cons (h 0 x y rfl rfl) (paired_by (Nat.succ.inj e) fun i a b p q => h (i + 1) a b p q)
theorem paired_refs {β : Type} {F : V → β → Prop} {a : Addr} {l : List β} (h : ∀ (i : Nat) (y : β), l[i]? = some y → F (.ref (itemAt K a i)) y) : Paired F (refsN K a l.length) l := by
  refine paired_by (by unfold refsN; rw [List.length_map, List.length_range]) fun i x y p q => ?_
  have hi : i < l.length := (List.getElem?_eq_some_iff.mp q).1
  unfold refsN at p
  rw [List.getElem?_map, List.getElem?_range hi] at p
  obtain rfl := Option.some.inj p
  exact h i y q
theorem spansB_ok {a : Addr} {l : List (Int × Int)} (h : spansB K a l = true) : WrSpans K a l := by
  obtain ⟨h1, h2⟩ := He.ba h
  refine ⟨_, wrTB_ok h1, paired_refs fun i y e => ?_⟩
  have := allIx_ok h2 e
  rw [Nat.zero_add] at this
  exact ⟨_, rfl, wrTB_ok this⟩
theorem shapesB_ok {a : Addr} (h : shapesB K a = true) : ∃ vs, WrT K a vs ∧ Paired (WrShape K) vs shapeTab := by
  obtain ⟨h1, h2⟩ := He.ba h
  refine ⟨_, wrTB_ok h1, paired_refs fun i y e => ?_⟩
  have := allIx_ok h2 e
  rw [Nat.zero_add] at this
  exact ⟨_, rfl, wrTB_ok this⟩
theorem classesB_ok {a : Addr} (h : classesB K a = true) : ∃ vs, WrT K a vs ∧ Paired (WrClass K) vs classTab := by
  obtain ⟨h1, h2⟩ := He.ba h
  refine ⟨_, wrTB_ok h1, paired_refs fun i y e => ?_⟩
  have := allIx_ok h2 e
  rw [Nat.zero_add] at this
  obtain ⟨h3, h4⟩ := Bool.and_eq_true_iff.mp this
  exact ⟨_, _, rfl, wrTB_ok h3, spansB_ok h4⟩
theorem pairsB_ok : ∀ {es : List DictEntry} {kvs : List (Int × Addr)}, pairsB es kvs = true → Paired (fun (e : DictEntry) (kv : Int × Addr) => e.hash = hashInt kv.1 ∧ (∃ t, e.key = .int kv.1 t) ∧ e.val = .ref kv.2) es kvs
  | [], [], _ => .nil
  | [], _ :: _, h => by cases h
  | _ :: _, [], h => by cases h
  | ⟨hs, key, val⟩ :: es, kv :: kvs, h => by
    obtain ⟨h1, h⟩ := He.ba h
    obtain ⟨h2, h⟩ := He.ba h
    obtain ⟨h3, h4⟩ := He.ba h
    refine .cons ⟨of_decide_eq_true h1, ?_, ?_⟩ (pairsB_ok h4)
    · cases key with
      | int j t =>
        have h2 : decide (j = kv.1) = true := h2
        exact ⟨t, by rw [of_decide_eq_true h2]⟩
      | _ => cases h2
    · cases val with
      | ref b =>
        have h3 : decide (b = kv.2) = true := h3
        show Value.ref b = _
        rw [of_decide_eq_true h3]
      | _ => cases h3
theorem dictB_ok {a : Addr} {kvs : List (Int × Addr)} (nd : (kvs.map (·.1)).Nodup) (h : dictB K a kvs = true) : WrD K a kvs := by
  unfold dictB at h
  split at h
  · rename_i c es n sl e
    obtain ⟨h1, h⟩ := He.ba h
    obtain ⟨h2, h⟩ := He.ba h
    obtain ⟨h3, h4⟩ := He.ba h
    obtain rfl := of_decide_eq_true h1
    have hs : sl = #[] := by
      split at h2
      · rename_i hl
        exact Array.toList_eq_nil_iff.mp hl
      · cases h2
    subst hs
    refine ⟨es, n, e, ?_, nd, pairsB_ok h4⟩
    cases q : (a == sysModules) with
    | false => rfl
    | true => rw [q] at h3; cases h3
  · cases h
theorem bareB_ok {x : Str} {mg : Str → Option Value} (h : bareB K x = true) (hg : mg x = some (.ref (He.ga K x))) (hk : PySem.W.keepIn K (.ref (He.ga K x)) = true) : PErr K mg (He.ga K x) x := by
  obtain ⟨h1, h⟩ := He.ba h
  obtain ⟨h2, h3⟩ := He.ba h
  exact ⟨h1, hg, hk, of_decide_eq_true h2, of_decide_eq_true h3⟩
theorem clsB_ok {x : Str} (h : clsB K x = true) : ∃ nm q N bs sn sub ab col dd k0 k1 k2 k3 k5, K.lookup (He.ga K x) = some (excClassObj nm q (He.ga K x) N bs PySem.OeX.exT true sn sub ab col dd k0 k1 k2 k3 k5 "Exception.__new__") := by
  unfold clsB at h
  split at h
  · rename_i t dd cd sl e
    obtain ⟨h1, h⟩ := He.ba h
    obtain ⟨h2, h⟩ := He.ba h
    obtain ⟨h3, h⟩ := He.ba h
    obtain ⟨h4, h5⟩ := He.ba h
    obtain rfl := of_decide_eq_true h1
    have h2 := of_decide_eq_true h2
    split at h5
    · rename_i k0 k1 k2 k3 n k5 hl
      obtain rfl := of_decide_eq_true h5
      have hs : sl = #[k0, k1, k2, k3, some (.builtin "Exception.__new__"), k5] := by
        obtain ⟨l⟩ := sl
        have hl : l = _ := hl
        rw [hl]
      subst hs
      obtain ⟨nm, bs, mro, N, q, hd, sn, sub, ab, col, dl⟩ := cd
      have g2 : mro = _ := h2
      have g3 : hd = true := h3
      have g4 : (!dl) = true := h4
      have g5 : dl = false := by
        cases dl with
        | false => rfl
        | true => cases g4
      subst g2 g3 g5
      exact ⟨nm, q, N, bs, sn, sub, ab, col, dd, k0, k1, k2, k3, k5, e⟩
    · cases h5
  · cases h
theorem errB_ok {x : Str} (h : errB K x = true) : PySem.OeX.ErrC K (He.ga K x) (He.ma K (He.ga K x) "__init__") := by
  unfold errB at h
  obtain ⟨h1, h⟩ := He.ba h
  obtain ⟨h2, h⟩ := He.ba h
  obtain ⟨h3, h⟩ := He.ba h
  obtain ⟨h4, h⟩ := He.ba h
  obtain ⟨h5, h⟩ := He.ba h
  obtain ⟨h6, h⟩ := He.ba h
  obtain ⟨h7, h⟩ := He.ba h
  obtain ⟨h8, h⟩ := He.ba h
  obtain ⟨h9, h⟩ := He.ba h
  obtain ⟨h10, h11⟩ := He.ba h
  exact ⟨clsB_ok h1, He.eqO_ok h2, He.eqO_ok h3, He.eqO_ok h4, He.eqO_ok h5, of_decide_eq_true h6, h7, of_decide_eq_true h8, of_decide_eq_true h9, h10, of_decide_eq_true h11⟩
end
/-- what is looked up besides -/
def ansAt (K : PySem.W.Frag) : List (Int × Addr) := [(0, He.ga K "answer_program"), (1, He.ga K "answer_record"), (2, He.ga K "answer_output"), (3, He.ga K "answer_fields"), (4, He.ga K "answer_sources"), (5, He.ga K "answer_piece"), (6, He.ga K "answer_spread"), (7, He.ga K "answer_could"), (8, He.ga K "answer_edit"), (9, He.ga K "answer_whole"), (10, He.ga K "answer_free"), (11, He.ga K "answer_undo")]
def mine (K : PySem.W.Frag) : Bool := errB K "Fault" && (errB K "NoOutput" && (bareB K "NoSuchPlace" && (bareB K "NoSuchText" && (bareB K "NoPart" && (bareB K "NotLedBack" && (shapesB K (He.ga K "SHAPES") && (spansB K (He.ga K "LETTERS_AND_DIGITS") (spans .words) && (classesB K (He.ga K "CLASSES") && dictB K (He.ga K "ANSWERERS") (ansAt K)))))))))
/-! ### the Hook -/
/-- what the module's names reach, level by level -/
def lvl (g : Addr → Option Obj) : Nat → List Addr → List Addr
  | 0, l => l
  | n + 1, l => l ++ lvl g n (l.flatMap fun a => match g a with
    | some o => He.refsO o
    | none => [])
def fragG (g : Addr → Option Obj) : PySem.W.Frag := He.frG g (lvl g 4 [mainGlobals])
abbrev AlM : Type := He.Al × Bool
def obsM (fa : List He.Fa) (fn : List He.FnD) (K : PySem.W.Frag) : AlM := (He.obsE fa fn K, mine K)
def hookM (fa : List He.Fa) (fn : List He.FnD) : PySem.W.Hook where
  α := AlM
  obs := fun s => obsM fa fn (fragG s.heap.get?)
  val := fun _ => (He.valE fn, true)
  says := fun _ h => ∃ K : PySem.W.Frag, K.In h ∧ He.SaysE fa fn K ∧ mine K = true
  of := fun _ s e => ⟨_, He.frG_in, congrArg (fun z : AlM => z.1) e, congrArg (fun z : AlM => z.2) e⟩
  keeps := fun _ _ _ ⟨F, hF, z⟩ k => ⟨F, PySem.W.Frag.In.keeps hF k, z⟩
theorem frag_eq (s : PySem.W.SharedT) : fragG (HandSHeadRun.getT s) = fragG s.abs.heap.get? := by
  have e : HandSHeadRun.getT s = s.abs.heap.get? := funext (HandSHeadRun.getT_eq s)
  rw [e]
/-- what the three runs say, together -/
theorem left_of {p q : Program} {loose : List Str} {Xt : Shared → Bool} {fa : List He.Fa} {fn : List He.FnD} {M N : Nat} (e : PySem.W.opening p = PySem.W.plainProg p.main.scope.names) (hN : Nat.ble 600 N = true) (f : ∀ s, PySem.fenceModules? p s = some s) (le : Nat.ble M N = true)
    (rA : ∀ (w : World) (os : OsState), (HandSHeadRun.endF (HandSHeadRun.stepQ (HandSHeadRun.denQ HandSHeadRun.tabQ) p w) M p w os).map (fun s => ((HandSHeadRun.looksF p (PySem.W.boot_heap w.params) s.abs, HandSHeadRun.seenQ q loose (PySem.importedModules p.main.body) Xt s.abs), mine (fragG (HandSHeadRun.getT s)))) = some ((true, PySem.W.openGood q loose), true))
    (rB : ∀ (w : World) (os : OsState), (HandSHeadRun.endF (HandSHeadRun.stepQ (HandSHeadRun.denQ HandSHeadRun.tabQ) p w) M p w os).map (fun s => (fn.all fun d => (He.Fa.code d.at_ d.qual).ok (fragG (HandSHeadRun.getT s)), fn.map fun d => He.fnObs (fragG (HandSHeadRun.getT s)) d.at_)) = some (true, fn.map He.FnD.val))
    (rC : ∀ (w : World) (os : OsState), (HandSHeadRun.endF (HandSHeadRun.stepQ (HandSHeadRun.denQ HandSHeadRun.tabQ) p w) M p w os).map (fun s => fa.all fun f => f.ok (fragG (HandSHeadRun.getT s))) = some true) :
    PySem.W.LeftO p q loose Xt (hookM fa fn).obs (hookM fa fn).val N true :=
  HandSHeadRun.left_one (M := M) e hN f le fun w os => by
    have z1 := rA w os
    have z2 := rB w os
    have z3 := rC w os
    rw [← HandSHeadRun.endQ_eq] at z1 z2 z3
    cases h : HandSHeadRun.endF (PySem.W.stepT (denote treeTable) p w) M p w os with
    | none =>
      rw [h] at z1
      cases z1
    | some s =>
      rw [h] at z1 z2 z3
      have y1 := Option.some.inj z1
      have y2 := Option.some.inj z2
      have y3 := Option.some.inj z3
      injection y1 with y4 y5
      injection y4 with y6 y7
      injection y2 with y8 y9
      rw [frag_eq] at y5 y8 y9
      have y3 : (fa.all fun f => f.ok (fragG (HandSHeadRun.getT s))) = true := y3
      rw [frag_eq] at y3
      show some (HandSHeadRun.looksF p (PySem.W.boot_heap w.params) s.abs, PySem.W.openSeen q loose (PySem.importedModules p.main.body) Xt true s.abs, ((((fa.all fun f => f.ok (fragG s.abs.heap.get?)) && fn.all fun d => (He.Fa.code d.at_ d.qual).ok (fragG s.abs.heap.get?), fn.map fun d => He.fnObs (fragG s.abs.heap.get?) d.at_), mine (fragG s.abs.heap.get?)) : AlM)) = some (true, PySem.W.openGood q loose, ((true, fn.map He.FnD.val), true))
      rw [HandSHeadRun.seenQ_eq, y6, y7, y5, y3, y8, y9]
      rfl
end Oe
namespace Oe
open PySem PySem.Spec PyProof.Rows L2
/-! ### the head -/
def d_Call_init : He.FnD := ⟨("Call", (some "__init__")), "__init__", "Call.__init__", defArgs s_Call_init, defBody s_Call_init, defScope s_Call_init⟩
def d_Given_init : He.FnD := ⟨("Given", (some "__init__")), "__init__", "Given.__init__", defArgs s_Given_init, defBody s_Given_init, defScope s_Given_init⟩
def d_Given_source : He.FnD := ⟨("Given", (some "source")), "source", "Given.source", defArgs s_Given_source, defBody s_Given_source, defScope s_Given_source⟩
def d_NoOutput_init : He.FnD := ⟨("NoOutput", (some "__init__")), "__init__", "NoOutput.__init__", defArgs s_NoOutput_init, defBody s_NoOutput_init, defScope s_NoOutput_init⟩
def d_Constant_init : He.FnD := ⟨("Constant", (some "__init__")), "__init__", "Constant.__init__", defArgs s_Constant_init, defBody s_Constant_init, defScope s_Constant_init⟩
def d_Constant_given_on : He.FnD := ⟨("Constant", (some "given_on")), "given_on", "Constant.given_on", defArgs s_Constant_given_on, defBody s_Constant_given_on, defScope s_Constant_given_on⟩
def d_Part_init : He.FnD := ⟨("Part", (some "__init__")), "__init__", "Part.__init__", defArgs s_Part_init, defBody s_Part_init, defScope s_Part_init⟩
def d_Part_given_on : He.FnD := ⟨("Part", (some "given_on")), "given_on", "Part.given_on", defArgs s_Part_given_on, defBody s_Part_given_on, defScope s_Part_given_on⟩
def d_Edit_init : He.FnD := ⟨("Edit", (some "__init__")), "__init__", "Edit.__init__", defArgs s_Edit_init, defBody s_Edit_init, defScope s_Edit_init⟩
def d_Shown_init : He.FnD := ⟨("Shown", (some "__init__")), "__init__", "Shown.__init__", defArgs s_Shown_init, defBody s_Shown_init, defScope s_Shown_init⟩
def d_FromStart_init : He.FnD := ⟨("FromStart", (some "__init__")), "__init__", "FromStart.__init__", defArgs s_FromStart_init, defBody s_FromStart_init, defScope s_FromStart_init⟩
def d_FromStart_place_in : He.FnD := ⟨("FromStart", (some "place_in")), "place_in", "FromStart.place_in", defArgs s_FromStart_place_in, defBody s_FromStart_place_in, defScope s_FromStart_place_in⟩
def d_FromEnd_init : He.FnD := ⟨("FromEnd", (some "__init__")), "__init__", "FromEnd.__init__", defArgs s_FromEnd_init, defBody s_FromEnd_init, defScope s_FromEnd_init⟩
def d_FromEnd_place_in : He.FnD := ⟨("FromEnd", (some "place_in")), "place_in", "FromEnd.place_in", defArgs s_FromEnd_place_in, defBody s_FromEnd_place_in, defScope s_FromEnd_place_in⟩
def d_Border_init : He.FnD := ⟨("Border", (some "__init__")), "__init__", "Border.__init__", defArgs s_Border_init, defBody s_Border_init, defScope s_Border_init⟩
def d_Border_place_in : He.FnD := ⟨("Border", (some "place_in")), "place_in", "Border.place_in", defArgs s_Border_place_in, defBody s_Border_place_in, defScope s_Border_place_in⟩
def d_Fault_init : He.FnD := ⟨("Fault", (some "__init__")), "__init__", "Fault.__init__", defArgs s_Fault_init, defBody s_Fault_init, defScope s_Fault_init⟩
def d_Reader_init : He.FnD := ⟨("Reader", (some "__init__")), "__init__", "Reader.__init__", defArgs s_Reader_init, defBody s_Reader_init, defScope s_Reader_init⟩
def d_Reader_stands_within : He.FnD := ⟨("Reader", (some "stands_within")), "stands_within", "Reader.stands_within", defArgs s_Reader_stands_within, defBody s_Reader_stands_within, defScope s_Reader_stands_within⟩
def d_Reader_stands : He.FnD := ⟨("Reader", (some "stands")), "stands", "Reader.stands", defArgs s_Reader_stands, defBody s_Reader_stands, defScope s_Reader_stands⟩
def d_Reader_skip : He.FnD := ⟨("Reader", (some "skip")), "skip", "Reader.skip", defArgs s_Reader_skip, defBody s_Reader_skip, defScope s_Reader_skip⟩
def d_Reader_take : He.FnD := ⟨("Reader", (some "take")), "take", "Reader.take", defArgs s_Reader_take, defBody s_Reader_take, defScope s_Reader_take⟩
def d_Reader_need : He.FnD := ⟨("Reader", (some "need")), "need", "Reader.need", defArgs s_Reader_need, defBody s_Reader_need, defScope s_Reader_need⟩
def d_Reader_need_end : He.FnD := ⟨("Reader", (some "need_end")), "need_end", "Reader.need_end", defArgs s_Reader_need_end, defBody s_Reader_need_end, defScope s_Reader_need_end⟩
def d_Desk_init : He.FnD := ⟨("Desk", (some "__init__")), "__init__", "Desk.__init__", defArgs s_Desk_init, defBody s_Desk_init, defScope s_Desk_init⟩
def d_split_calls : He.FnD := ⟨("split_calls", none), "split_calls", "split_calls", defArgs s_split_calls, defBody s_split_calls, defScope s_split_calls⟩
def d_capital : He.FnD := ⟨("capital", none), "capital", "capital", defArgs s_capital, defBody s_capital, defScope s_capital⟩
def d_small : He.FnD := ⟨("small", none), "small", "small", defArgs s_small, defBody s_small, defScope s_small⟩
def d_turned : He.FnD := ⟨("turned", none), "turned", "turned", defArgs s_turned, defBody s_turned, defScope s_turned⟩
def d_all_given : He.FnD := ⟨("all_given", none), "all_given", "all_given", defArgs s_all_given, defBody s_all_given, defScope s_all_given⟩
def d_joined : He.FnD := ⟨("joined", none), "joined", "joined", defArgs s_joined, defBody s_joined, defScope s_joined⟩
def d_is_plain : He.FnD := ⟨("is_plain", none), "is_plain", "is_plain", defArgs s_is_plain, defBody s_is_plain, defScope s_is_plain⟩
def d_is_field : He.FnD := ⟨("is_field", none), "is_field", "is_field", defArgs s_is_field, defBody s_is_field, defScope s_is_field⟩
def d_is_record : He.FnD := ⟨("is_record", none), "is_record", "is_record", defArgs s_is_record, defBody s_is_record, defScope s_is_record⟩
def d_split_texts : He.FnD := ⟨("split_texts", none), "split_texts", "split_texts", defArgs s_split_texts, defBody s_split_texts, defScope s_split_texts⟩
def d_told_record : He.FnD := ⟨("told_record", none), "told_record", "told_record", defArgs s_told_record, defBody s_told_record, defScope s_told_record⟩
def d_need_text : He.FnD := ⟨("need_text", none), "need_text", "need_text", defArgs s_need_text, defBody s_need_text, defScope s_need_text⟩
def d_common_beginning : He.FnD := ⟨("common_beginning", none), "common_beginning", "common_beginning", defArgs s_common_beginning, defBody s_common_beginning, defScope s_common_beginning⟩
def d_common_end : He.FnD := ⟨("common_end", none), "common_end", "common_end", defArgs s_common_end, defBody s_common_end, defScope s_common_end⟩
def d_narrowed : He.FnD := ⟨("narrowed", none), "narrowed", "narrowed", defArgs s_narrowed, defBody s_narrowed, defScope s_narrowed⟩
def d_holders : He.FnD := ⟨("holders", none), "holders", "holders", defArgs s_holders, defBody s_holders, defScope s_holders⟩
def d_changed_record : He.FnD := ⟨("changed_record", none), "changed_record", "changed_record", defArgs s_changed_record, defBody s_changed_record, defScope s_changed_record⟩
def d_gives : He.FnD := ⟨("gives", none), "gives", "gives", defArgs s_gives, defBody s_gives, defScope s_gives⟩
def d_led_back : He.FnD := ⟨("led_back", none), "led_back", "led_back", defArgs s_led_back, defBody s_led_back, defScope s_led_back⟩
def d_is_led_back : He.FnD := ⟨("is_led_back", none), "is_led_back", "is_led_back", defArgs s_is_led_back, defBody s_is_led_back, defScope s_is_led_back⟩
def d_whole_edit : He.FnD := ⟨("whole_edit", none), "whole_edit", "whole_edit", defArgs s_whole_edit, defBody s_whole_edit, defScope s_whole_edit⟩
def d_free_bytes : He.FnD := ⟨("free_bytes", none), "free_bytes", "free_bytes", defArgs s_free_bytes, defBody s_free_bytes, defScope s_free_bytes⟩
def d_in_spans : He.FnD := ⟨("in_spans", none), "in_spans", "in_spans", defArgs s_in_spans, defBody s_in_spans, defScope s_in_spans⟩
def d_is_letter_or_digit : He.FnD := ⟨("is_letter_or_digit", none), "is_letter_or_digit", "is_letter_or_digit", defArgs s_is_letter_or_digit, defBody s_is_letter_or_digit, defScope s_is_letter_or_digit⟩
def d_stands_behind : He.FnD := ⟨("stands_behind", none), "stands_behind", "stands_behind", defArgs s_stands_behind, defBody s_stands_behind, defScope s_stands_behind⟩
def d_begins : He.FnD := ⟨("begins", none), "begins", "begins", defArgs s_begins, defBody s_begins, defScope s_begins⟩
def d_ends : He.FnD := ⟨("ends", none), "ends", "ends", defArgs s_ends, defBody s_ends, defScope s_ends⟩
def d_borders : He.FnD := ⟨("borders", none), "borders", "borders", defArgs s_borders, defBody s_borders, defScope s_borders⟩
def d_read_program : He.FnD := ⟨("read_program", none), "read_program", "read_program", defArgs s_read_program, defBody s_read_program, defScope s_read_program⟩
def d_read_piece : He.FnD := ⟨("read_piece", none), "read_piece", "read_piece", defArgs s_read_piece, defBody s_read_piece, defScope s_read_piece⟩
def d_read_constant : He.FnD := ⟨("read_constant", none), "read_constant", "read_constant", defArgs s_read_constant, defBody s_read_constant, defScope s_read_constant⟩
def d_read_part : He.FnD := ⟨("read_part", none), "read_part", "read_part", defArgs s_read_part, defBody s_read_part, defScope s_read_part⟩
def d_read_turn : He.FnD := ⟨("read_turn", none), "read_turn", "read_turn", defArgs s_read_turn, defBody s_read_turn, defScope s_read_turn⟩
def d_read_position : He.FnD := ⟨("read_position", none), "read_position", "read_position", defArgs s_read_position, defBody s_read_position, defScope s_read_position⟩
def d_read_border : He.FnD := ⟨("read_border", none), "read_border", "read_border", defArgs s_read_border, defBody s_read_border, defScope s_read_border⟩
def d_read_class : He.FnD := ⟨("read_class", none), "read_class", "read_class", defArgs s_read_class, defBody s_read_class, defScope s_read_class⟩
def d_read_quoted : He.FnD := ⟨("read_quoted", none), "read_quoted", "read_quoted", defArgs s_read_quoted, defBody s_read_quoted, defScope s_read_quoted⟩
def d_read_digit : He.FnD := ⟨("read_digit", none), "read_digit", "read_digit", defArgs s_read_digit, defBody s_read_digit, defScope s_read_digit⟩
def d_read_number : He.FnD := ⟨("read_number", none), "read_number", "read_number", defArgs s_read_number, defBody s_read_number, defScope s_read_number⟩
def d_answer_program : He.FnD := ⟨("answer_program", none), "answer_program", "answer_program", defArgs s_answer_program, defBody s_answer_program, defScope s_answer_program⟩
def d_answer_record : He.FnD := ⟨("answer_record", none), "answer_record", "answer_record", defArgs s_answer_record, defBody s_answer_record, defScope s_answer_record⟩
def d_answer_output : He.FnD := ⟨("answer_output", none), "answer_output", "answer_output", defArgs s_answer_output, defBody s_answer_output, defScope s_answer_output⟩
def d_answer_fields : He.FnD := ⟨("answer_fields", none), "answer_fields", "answer_fields", defArgs s_answer_fields, defBody s_answer_fields, defScope s_answer_fields⟩
def d_answer_sources : He.FnD := ⟨("answer_sources", none), "answer_sources", "answer_sources", defArgs s_answer_sources, defBody s_answer_sources, defScope s_answer_sources⟩
def d_answer_piece : He.FnD := ⟨("answer_piece", none), "answer_piece", "answer_piece", defArgs s_answer_piece, defBody s_answer_piece, defScope s_answer_piece⟩
def d_answer_spread : He.FnD := ⟨("answer_spread", none), "answer_spread", "answer_spread", defArgs s_answer_spread, defBody s_answer_spread, defScope s_answer_spread⟩
def d_edited_record : He.FnD := ⟨("edited_record", none), "edited_record", "edited_record", defArgs s_edited_record, defBody s_edited_record, defScope s_edited_record⟩
def d_change_record : He.FnD := ⟨("change_record", none), "change_record", "change_record", defArgs s_change_record, defBody s_change_record, defScope s_change_record⟩
def d_answer_could : He.FnD := ⟨("answer_could", none), "answer_could", "answer_could", defArgs s_answer_could, defBody s_answer_could, defScope s_answer_could⟩
def d_answer_edit : He.FnD := ⟨("answer_edit", none), "answer_edit", "answer_edit", defArgs s_answer_edit, defBody s_answer_edit, defScope s_answer_edit⟩
def d_answer_whole : He.FnD := ⟨("answer_whole", none), "answer_whole", "answer_whole", defArgs s_answer_whole, defBody s_answer_whole, defScope s_answer_whole⟩
def d_answer_free : He.FnD := ⟨("answer_free", none), "answer_free", "answer_free", defArgs s_answer_free, defBody s_answer_free, defScope s_answer_free⟩
def d_answer_undo : He.FnD := ⟨("answer_undo", none), "answer_undo", "answer_undo", defArgs s_answer_undo, defBody s_answer_undo, defScope s_answer_undo⟩
def d_answer_call : He.FnD := ⟨("answer_call", none), "answer_call", "answer_call", defArgs s_answer_call, defBody s_answer_call, defScope s_answer_call⟩
def d_answers : He.FnD := ⟨("answers", none), "answers", "answers", defArgs s_answers, defBody s_answers, defScope s_answers⟩
def fn0 : List He.FnD := [d_Call_init, d_Given_init, d_Given_source, d_NoOutput_init, d_Constant_init, d_Constant_given_on, d_Part_init, d_Part_given_on, d_Edit_init, d_Shown_init, d_FromStart_init, d_FromStart_place_in, d_FromEnd_init, d_FromEnd_place_in, d_Border_init, d_Border_place_in, d_Fault_init, d_Reader_init, d_Reader_stands_within, d_Reader_stands, d_Reader_skip, d_Reader_take, d_Reader_need, d_Reader_need_end, d_Desk_init, d_split_calls, d_capital, d_small, d_turned, d_all_given, d_joined, d_is_plain, d_is_field, d_is_record, d_split_texts]
def fn1 : List He.FnD := [d_told_record, d_need_text, d_common_beginning, d_common_end, d_narrowed, d_holders, d_changed_record, d_gives, d_led_back, d_is_led_back, d_whole_edit, d_free_bytes, d_in_spans, d_is_letter_or_digit, d_stands_behind, d_begins, d_ends, d_borders, d_read_program, d_read_piece, d_read_constant, d_read_part, d_read_turn, d_read_position, d_read_border, d_read_class, d_read_quoted, d_read_digit, d_read_number, d_answer_program, d_answer_record, d_answer_output, d_answer_fields, d_answer_sources, d_answer_piece]
def fn2 : List He.FnD := [d_answer_spread, d_edited_record, d_change_record, d_answer_could, d_answer_edit, d_answer_whole, d_answer_free, d_answer_undo, d_answer_call, d_answers]
def fnAll : List He.FnD := fn0 ++ fn1 ++ fn2
def fa0 : List He.Fa := [.glo "Call", .cls "Call", .mkr "Call", .noat "Call" "kind", .noat "Call" "numbers", .noat "Call" "row", .meth "Call" "__init__", .glo "Given", .cls "Given", .mkr "Given", .noat "Given" "text", .noat "Given" "field", .noat "Given" "start", .meth "Given" "__init__", .meth "Given" "source", .glo "NoOutput", .noat "NoOutput" "piece", .meth "NoOutput" "__init__", .glo "Constant", .cls "Constant", .mkr "Constant", .noat "Constant" "text", .meth "Constant" "__init__", .meth "Constant" "given_on", .glo "Part", .cls "Part", .mkr "Part", .noat "Part" "field", .noat "Part" "first", .noat "Part" "last", .noat "Part" "turn", .meth "Part" "__init__", .meth "Part" "given_on", .glo "NoSuchPlace", .keep "NoSuchPlace"]
def fa1 : List He.Fa := [.glo "NoSuchText", .keep "NoSuchText", .glo "NoPart", .keep "NoPart", .glo "NotLedBack", .keep "NotLedBack", .glo "Edit", .cls "Edit", .mkr "Edit", .noat "Edit" "start", .noat "Edit" "end", .noat "Edit" "text", .meth "Edit" "__init__", .glo "Shown", .cls "Shown", .mkr "Shown", .noat "Shown" "program", .noat "Shown" "record", .noat "Shown" "givens", .noat "Shown" "output", .meth "Shown" "__init__", .glo "FromStart", .cls "FromStart", .mkr "FromStart", .noat "FromStart" "distance", .meth "FromStart" "__init__", .meth "FromStart" "place_in", .glo "FromEnd", .cls "FromEnd", .mkr "FromEnd", .noat "FromEnd" "distance", .meth "FromEnd" "__init__", .meth "FromEnd" "place_in", .glo "Border", .cls "Border"]
def fa2 : List He.Fa := [.mkr "Border", .noat "Border" "left", .noat "Border" "right", .noat "Border" "nth", .noat "Border" "from_right", .meth "Border" "__init__", .meth "Border" "place_in", .glo "Fault", .noat "Fault" "kind", .noat "Fault" "place", .meth "Fault" "__init__", .glo "Reader", .cls "Reader", .mkr "Reader", .noat "Reader" "text", .noat "Reader" "place", .meth "Reader" "__init__", .meth "Reader" "stands_within", .meth "Reader" "stands", .meth "Reader" "skip", .meth "Reader" "take", .meth "Reader" "need", .meth "Reader" "need_end", .glo "Desk", .cls "Desk", .mkr "Desk", .noat "Desk" "program", .noat "Desk" "record", .noat "Desk" "past", .meth "Desk" "__init__", .glo "split_calls", .keep "split_calls", .glo "capital", .keep "capital", .glo "small"]
def fa3 : List He.Fa := [.keep "small", .glo "turned", .keep "turned", .glo "all_given", .keep "all_given", .glo "joined", .keep "joined", .glo "is_plain", .keep "is_plain", .glo "is_field", .keep "is_field", .glo "is_record", .keep "is_record", .glo "split_texts", .keep "split_texts", .glo "told_record", .keep "told_record", .glo "need_text", .keep "need_text", .glo "common_beginning", .keep "common_beginning", .glo "common_end", .keep "common_end", .glo "narrowed", .keep "narrowed", .glo "holders", .keep "holders", .glo "changed_record", .keep "changed_record", .glo "gives", .keep "gives", .glo "led_back", .keep "led_back", .glo "is_led_back", .keep "is_led_back"]
def fa4 : List He.Fa := [.glo "whole_edit", .keep "whole_edit", .glo "free_bytes", .keep "free_bytes", .glo "in_spans", .keep "in_spans", .glo "is_letter_or_digit", .keep "is_letter_or_digit", .glo "stands_behind", .keep "stands_behind", .glo "begins", .keep "begins", .glo "ends", .keep "ends", .glo "borders", .keep "borders", .glo "read_program", .keep "read_program", .glo "read_piece", .keep "read_piece", .glo "read_constant", .keep "read_constant", .glo "read_part", .keep "read_part", .glo "read_turn", .keep "read_turn", .glo "read_position", .keep "read_position", .glo "read_border", .keep "read_border", .glo "read_class", .keep "read_class", .glo "read_quoted", .keep "read_quoted", .glo "read_digit"]
def fa5 : List He.Fa := [.keep "read_digit", .glo "read_number", .keep "read_number", .glo "answer_program", .keep "answer_program", .glo "answer_record", .keep "answer_record", .glo "answer_output", .keep "answer_output", .glo "answer_fields", .keep "answer_fields", .glo "answer_sources", .keep "answer_sources", .glo "answer_piece", .keep "answer_piece", .glo "answer_spread", .keep "answer_spread", .glo "edited_record", .keep "edited_record", .glo "change_record", .keep "change_record", .glo "answer_could", .keep "answer_could", .glo "answer_edit", .keep "answer_edit", .glo "answer_whole", .keep "answer_whole", .glo "answer_free", .keep "answer_free", .glo "answer_undo", .keep "answer_undo", .glo "answer_call", .keep "answer_call", .glo "answers", .keep "answers"]
def fa6 : List He.Fa := [.glo "SHAPES", .int "MOST_FIELDS" 4, .int "LONGEST_FIELD" 40, .int "LOWEST_BYTE" 32, .int "HIGHEST_BYTE" 126, .int "LONGEST_TEXT" 240, .glo "LETTERS_AND_DIGITS", .glo "CLASSES", .int "MOST_PIECES" 6, .int "LONGEST_CONSTANT" 12, .int "MISPLACED" 1, .int "CONSTANT_LENGTH" 2, .int "NUMBER" 3, .int "TWO_EMPTY_CLASSES" 4, .int "PIECE_TOO_MANY" 5, .int "LONGEST_PROGRAM" 1000, .int "MOST_PAST" 50, .glo "ANSWERERS", .exm "NoOutput" "NoOutput" true, .exm "NoOutput" "NoSuchText" false, .exm "NoOutput" "NoSuchPlace" false, .exm "NoOutput" "NoPart" false, .exm "NoOutput" "NotLedBack" false, .exm "NoSuchText" "NoOutput" false, .exm "NoSuchText" "NoSuchText" true, .exm "NoSuchText" "NoSuchPlace" false, .exm "NoSuchText" "NoPart" false, .exm "NoSuchText" "NotLedBack" false, .exm "NoSuchPlace" "NoOutput" false, .exm "NoSuchPlace" "NoSuchText" false, .exm "NoSuchPlace" "NoSuchPlace" true, .exm "NoSuchPlace" "NoPart" false, .exm "NoSuchPlace" "NotLedBack" false, .exm "NoPart" "NoOutput" false, .exm "NoPart" "NoSuchText" false]
def fa7 : List He.Fa := [.exm "NoPart" "NoSuchPlace" false, .exm "NoPart" "NoPart" true, .exm "NoPart" "NotLedBack" false, .exm "NotLedBack" "NoOutput" false, .exm "NotLedBack" "NoSuchText" false, .exm "NotLedBack" "NoSuchPlace" false, .exm "NotLedBack" "NoPart" false, .exm "NotLedBack" "NotLedBack" true, .free "len", .free "ord", .free "list", .free "range", .free "enumerate", .free "all", .free "min"]
def faAll : List He.Fa := fa0 ++ fa1 ++ fa2 ++ fa3 ++ fa4 ++ fa5 ++ fa6 ++ fa7
def names0 : List Str := [PySem.Str.ofString "Call", PySem.Str.ofString "split_calls", PySem.Str.ofString "Given", PySem.Str.ofString "NoOutput", PySem.Str.ofString "Constant", PySem.Str.ofString "Part", PySem.Str.ofString "capital", PySem.Str.ofString "small", PySem.Str.ofString "turned", PySem.Str.ofString "all_given", PySem.Str.ofString "joined", PySem.Str.ofString "is_plain", PySem.Str.ofString "is_field", PySem.Str.ofString "is_record", PySem.Str.ofString "split_texts", PySem.Str.ofString "told_record", PySem.Str.ofString "NoSuchPlace", PySem.Str.ofString "NoSuchText", PySem.Str.ofString "NoPart", PySem.Str.ofString "NotLedBack", PySem.Str.ofString "Edit", PySem.Str.ofString "Shown", PySem.Str.ofString "need_text", PySem.Str.ofString "common_beginning", PySem.Str.ofString "common_end", PySem.Str.ofString "narrowed", PySem.Str.ofString "holders", PySem.Str.ofString "changed_record", PySem.Str.ofString "gives", PySem.Str.ofString "led_back"]
def names1 : List Str := [PySem.Str.ofString "is_led_back", PySem.Str.ofString "whole_edit", PySem.Str.ofString "free_bytes", PySem.Str.ofString "in_spans", PySem.Str.ofString "is_letter_or_digit", PySem.Str.ofString "stands_behind", PySem.Str.ofString "begins", PySem.Str.ofString "ends", PySem.Str.ofString "borders", PySem.Str.ofString "FromStart", PySem.Str.ofString "FromEnd", PySem.Str.ofString "Border", PySem.Str.ofString "Fault", PySem.Str.ofString "Reader", PySem.Str.ofString "read_program", PySem.Str.ofString "read_piece", PySem.Str.ofString "read_constant", PySem.Str.ofString "read_part", PySem.Str.ofString "read_turn", PySem.Str.ofString "read_position", PySem.Str.ofString "read_border", PySem.Str.ofString "read_class", PySem.Str.ofString "read_quoted", PySem.Str.ofString "read_digit", PySem.Str.ofString "read_number", PySem.Str.ofString "Desk", PySem.Str.ofString "answer_program", PySem.Str.ofString "answer_record", PySem.Str.ofString "answer_output", PySem.Str.ofString "answer_fields"]
def names2 : List Str := [PySem.Str.ofString "answer_sources", PySem.Str.ofString "answer_piece", PySem.Str.ofString "answer_spread", PySem.Str.ofString "edited_record", PySem.Str.ofString "change_record", PySem.Str.ofString "answer_could", PySem.Str.ofString "answer_edit", PySem.Str.ofString "answer_whole", PySem.Str.ofString "answer_free", PySem.Str.ofString "answer_undo", PySem.Str.ofString "answer_call", PySem.Str.ofString "SHAPES", PySem.Str.ofString "MOST_FIELDS", PySem.Str.ofString "LONGEST_FIELD", PySem.Str.ofString "LOWEST_BYTE", PySem.Str.ofString "HIGHEST_BYTE", PySem.Str.ofString "LONGEST_TEXT", PySem.Str.ofString "LETTERS_AND_DIGITS", PySem.Str.ofString "CLASSES", PySem.Str.ofString "MOST_PIECES", PySem.Str.ofString "LONGEST_CONSTANT", PySem.Str.ofString "MISPLACED", PySem.Str.ofString "CONSTANT_LENGTH", PySem.Str.ofString "NUMBER", PySem.Str.ofString "TWO_EMPTY_CLASSES", PySem.Str.ofString "PIECE_TOO_MANY", PySem.Str.ofString "LONGEST_PROGRAM", PySem.Str.ofString "MOST_PAST", PySem.Str.ofString "ANSWERERS"]
def namesAll : List Str := names0 ++ names1 ++ names2
end Oe
namespace Oe
open PySem PySem.W PySem.Calls PyProof.Rows
abbrev Rw : OpenSpec := PySem.Challenge.rw_outputedits_s01_answers
abbrev qv : Program := view Rw.prog [97]
abbrev hk : Hook := hookM faAll fnAll
/-- the state behind the top -/
noncomputable def endT (w : World) (os : OsState) : Option SharedT := HandSHeadRun.endF (HandSHeadRun.stepQ (HandSHeadRun.denQ HandSHeadRun.tabQ) Rw.prog w) 7000 Rw.prog w os
noncomputable def lookA (w : World) (s : SharedT) := ((HandSHeadRun.looksF Rw.prog (boot_heap w.params) s.abs, HandSHeadRun.seenQ qv namesAll (importedModules Rw.prog.main.body) (fun s => xlAt qv [] s && recOk [] s) s.abs), mine (fragG (HandSHeadRun.getT s)))
def lookB (s : SharedT) : Bool × List He.FnV := (fnAll.all fun d => (He.Fa.code d.at_ d.qual).ok (fragG (HandSHeadRun.getT s)), fnAll.map fun d => He.fnObs (fragG (HandSHeadRun.getT s)) d.at_)
def lookC (s : SharedT) : Bool := faAll.all fun f => f.ok (fragG (HandSHeadRun.getT s))
def runA (w : World) : Prop := ∀ os : OsState, (endT w os).map (lookA w) = some ((true, openGood qv namesAll), true)
def runB (w : World) : Prop := ∀ os : OsState, (endT w os).map lookB = some (true, fnAll.map He.FnD.val)
def runC (w : World) : Prop := ∀ os : OsState, (endT w os).map lookC = some true
theorem runA_f (w : World) : runA (w.withFollow "special-get-raises" false) := by
  intro os
  kernel_rfl
theorem runA_t (w : World) : runA (w.withFollow "special-get-raises" true) := by
  intro os
  kernel_rfl
theorem runB_f (w : World) : runB (w.withFollow "special-get-raises" false) := by
  intro os
  kernel_rfl
theorem runB_t (w : World) : runB (w.withFollow "special-get-raises" true) := by
  intro os
  kernel_rfl
theorem runC_f (w : World) : runC (w.withFollow "special-get-raises" false) := by
  intro os
  kernel_rfl
theorem runC_t (w : World) : runC (w.withFollow "special-get-raises" true) := by
  intro os
  kernel_rfl
theorem said : Rw.wellSaid = true := by decide +kernel
theorem chain_ok : (chainsOk qv && opensWell Rw.prog) = true := by decide +kernel
theorem bare_ok : Rw.prog.bare := ⟨rfl, rfl, rfl, rfl, rfl, by decide +kernel⟩
theorem left : LeftO Rw.prog qv namesAll (fun s => xlAt qv [] s && recOk [] s) hk.obs hk.val 7600 true :=
  left_of (M := 7000) (by kernel_rfl) (by decide) (fun s => by kernel_rfl) (by decide) (byRow2 "special-get-raises" (P := runA) runA_f runA_t) (byRow2 "special-get-raises" (P := runB) runB_f runB_t) (byRow2 "special-get-raises" (P := runC) runC_f runC_t)
end Oe
namespace Oe
open PySem PySem.Spec PyProof.Rows L2
open Vaflxa (Cls Case Piece At Res)
/-! ### texts and outputs -/
def flat (gs : List G3) : List UInt8 := gs.flatMap fun g => g.1
def sp_is_plain (K : PySem.W.Frag) (A : Ads) : Sp := fun vs H Q _ => vs.length = 2 ∧ ∃ t bs n, vs = [.ref t, .int (n : Nat)] ∧ SqL K H t (vBs bs) ∧ bs.length ≤ 20000 ∧ ∀ H', Same H H' → Q (.bl (Vaflxa.goodText n bs)) H'
def sp_joined (K : PySem.W.Frag) (A : Ads) : Sp := fun vs H Q _ => vs.length = 1 ∧ ∃ a ws gs, vs = [.ref a] ∧ SqL K H a ws ∧ Paired (IsGiven A H) ws gs ∧ (∀ g ∈ gs, g.1.length ≤ 1000) ∧ gs.length ≤ 1000 ∧ ∀ p, H p = none → Q (.ref p) (upd H p (.lst (vBs (flat gs))))
def sp_need_text (K : PySem.W.Frag) (A : Ads) : Sp := fun vs H Q E => vs.length = 1 ∧ ∃ t bs, vs = [.ref t] ∧ SqL K H t (vBs bs) ∧ bs.length ≤ 20000 ∧
  (Vaflxa.goodText 240 bs = true → ∀ H', Same H H' → Q .non H') ∧ (Vaflxa.goodText 240 bs = false → ∀ H', Same H H' → E (.ref A.c_NoSuchText) none H')
def sp_common_beginning (K : PySem.W.Frag) (A : Ads) : Sp := fun vs H Q _ => vs.length = 2 ∧ ∃ a b x y, vs = [.ref a, .ref b] ∧ SqL K H a (vBs x) ∧ SqL K H b (vBs y) ∧ Q (.int (Vaflxk.commonFront x y : Nat)) H
def sp_common_end (K : PySem.W.Frag) (A : Ads) : Sp := fun vs H Q _ => vs.length = 3 ∧ ∃ a b x y p, vs = [.ref a, .ref b, .int (p : Nat)] ∧ SqL K H a (vBs x) ∧ SqL K H b (vBs y) ∧ p ≤ x.length ∧ p ≤ y.length ∧ Q (.int (Vaflxk.commonFront (x.drop p).reverse (y.drop p).reverse : Nat)) H
/-! ### edits -/
def EditAt (A : Ads) (S : Hp) (a : Addr) (i j : Int) (u : List UInt8) : Prop := ∃ dx t, S a = some (.ins A.c_Edit dx (fs_Edit (.int i) (.int j) (.ref t))) ∧ S t = some (.lst (vBs u))
def midOf (u : List UInt8) (c : Nat × Nat) : List UInt8 := (u.drop c.1).take (u.length - c.1 - c.2)
def sp_narrowed (K : PySem.W.Frag) (A : Ads) : Sp := fun vs H Q _ => vs.length = 2 ∧ ∃ (o e : Addr) (S : Hp) (ou : List UInt8) (i j : Nat) (u : List UInt8), vs = [.ref o, .ref e] ∧ Same S H ∧ S o = some (.lst (vBs ou)) ∧ EditAt A S e (i : Nat) (j : Nat) u ∧ i ≤ j ∧ j ≤ ou.length ∧
  ∀ S' x H', Grow nobody S H S' H' → EditAt A S' x ((i + (Vaflxk.commonEnds ((ou.take j).drop i) u).1 : Nat) : Int) ((j - (Vaflxk.commonEnds ((ou.take j).drop i) u).2 : Nat) : Int) (midOf u (Vaflxk.commonEnds ((ou.take j).drop i) u)) → Q (.ref x) H'
/-- a record as a program shows it -/
def ShownAt (K : PySem.W.Frag) (A : Ads) (S : Hp) (a : Addr) (s : Vaflxk.State) (gs : List G3) : Prop := ∃ dx pr rc ga oa ws, S a = some (.ins A.c_Shown dx (fs_Shown (.ref pr) (.ref rc) (.ref ga) (.ref oa))) ∧ ProgAt K A S pr s.program ∧ RecAt S rc s.record ∧ Vaflxa.goodRecord s.record = true ∧
  outsFrom s.record 0 s.program = .ok gs ∧ S ga = some (.lst ws) ∧ Paired (IsGiven A S) ws gs ∧ S oa = some (.lst (vBs (flat gs)))
/-- the parts that have all of an edit, each with where its text begins -/
def candG (i j : Nat) : Nat → List G3 → List (G3 × Nat)
  | _, [] => []
  | n, g :: gs => if g.2.1 ≠ 0 ∧ n ≤ i ∧ j ≤ n + g.1.length then (g, n) :: candG i j (n + g.1.length) gs else candG i j (n + g.1.length) gs
def IsHold (A : Ads) (S : Hp) (v : V) (h : G3 × Nat) : Prop := ∃ t b, v = .ref t ∧ S t = some (.tup [.ref b, .int (h.2 : Nat)]) ∧ GivenAt A S b h.1
def sp_holders (K : PySem.W.Frag) (A : Ads) : Sp := fun vs H Q _ => vs.length = 2 ∧ ∃ (sh e : Addr) (S : Hp) (s : Vaflxk.State) (gs : List G3) (i j : Nat) (u : List UInt8), vs = [.ref sh, .ref e] ∧ Same S H ∧ ShownAt K A S sh s gs ∧ EditAt A S e (i : Nat) (j : Nat) u ∧
  ∀ S' a H' ws, Grow nobody S H S' H' → S' a = some (.lst ws) → Paired (IsHold A S') ws (candG i j 0 gs) → Q (.ref a) H'
def sp_changed_record (K : PySem.W.Frag) (A : Ads) : Sp := fun vs H Q _ => vs.length = 4 ∧ ∃ (rc gv ed : Addr) (S : Hp) (r : List (List UInt8)) (g : G3) (n i j : Nat) (u t : List UInt8), vs = [.ref rc, .ref gv, .int (n : Nat), .ref ed] ∧ Same S H ∧ RecAt S rc r ∧ r.length ≤ 4 ∧ GivenAt A S gv g ∧ 1 ≤ g.2.1 ∧ r[g.2.1 - 1]? = some t ∧ t.length ≤ 40 ∧
  EditAt A S ed (i : Nat) (j : Nat) u ∧ u.length ≤ 1000 ∧ n ≤ i ∧ i ≤ j ∧ g.2.2 + (j - n) ≤ t.length ∧
  ∀ S' a H', Grow nobody S H S' H' → RecAt S' a (r.set (g.2.1 - 1) (t.take (g.2.2 + (i - n)) ++ u ++ t.drop (g.2.2 + (j - n)))) → Q (.ref a) H'
def sp_gives (K : PySem.W.Frag) (A : Ads) : Sp := fun vs H Q _ => vs.length = 3 ∧ ∃ (pr rc w : Addr) (S : Hp) (p : Vaflxa.Program) (r : Vaflxa.Record) (o : List UInt8), vs = [.ref pr, .ref rc, .ref w] ∧ Same S H ∧ ProgAt K A S pr p ∧ RecAt S rc r ∧ Vaflxa.goodRecord r = true ∧ S w = some (.lst (vBs o)) ∧
  ∀ H', Same H H' → Q (.bl (Vaflxa.given r p == some o)) H'
/-- the classes of refusals -/
def ErrIs (A : Ads) (e : Int) (C : Addr) : Prop := (e = -2 ∧ C = A.c_NoSuchPlace) ∨ (e = -1 ∧ C = A.c_NoSuchText) ∨ (e = -3 ∧ C = A.c_NoPart) ∨ (e = -9 ∧ C = A.c_NotLedBack)
/-- an edit's outcome, by what the pieces gave -/
def outc (s : Vaflxk.State) (gs : List G3) (i j : Int) (u : List UInt8) : Except Int Vaflxk.Record := Vaflxk.outcome s (flat gs) ((Vaflxk.spansOf s.record s.program).getD []) i j u
def sp_led_back (K : PySem.W.Frag) (A : Ads) : Sp := fun vs H Q E => vs.length = 2 ∧ ∃ (sh e : Addr) (S : Hp) (s : Vaflxk.State) (gs : List G3) (i j : Int) (u : List UInt8), vs = [.ref sh, .ref e] ∧ Same S H ∧ ShownAt K A S sh s gs ∧ EditAt A S e i j u ∧ u.length ≤ 20000 ∧
  (∀ r, outc s gs i j u = .ok r → ∀ S' a H', Grow nobody S H S' H' → RecAt S' a r → Q (.ref a) H') ∧ (∀ c C, outc s gs i j u = .error c → ErrIs A c C → ∀ H', Same H H' → E (.ref C) none H')
def sp_is_led_back (K : PySem.W.Frag) (A : Ads) : Sp := fun vs H Q E => vs.length = 2 ∧ ∃ (sh e : Addr) (S : Hp) (s : Vaflxk.State) (gs : List G3) (i j : Int) (u : List UInt8), vs = [.ref sh, .ref e] ∧ Same S H ∧ ShownAt K A S sh s gs ∧ EditAt A S e i j u ∧ u.length ≤ 20000 ∧
  (∀ r, outc s gs i j u = .ok r → ∀ H', Same H H' → Q (.bl true) H') ∧ (∀ c, outc s gs i j u = .error c → c = -3 ∨ c = -9 → ∀ H', Same H H' → Q (.bl false) H') ∧
  (∀ c C, outc s gs i j u = .error c → ErrIs A c C → ¬ (c = -3 ∨ c = -9) → ∀ H', Same H H' → E (.ref C) none H')
def sp_whole_edit (K : PySem.W.Frag) (A : Ads) : Sp := fun vs H Q _ => vs.length = 2 ∧ ∃ (sh t : Addr) (S : Hp) (s : Vaflxk.State) (gs : List G3) (o : List UInt8), vs = [.ref sh, .ref t] ∧ Same S H ∧ ShownAt K A S sh s gs ∧ S t = some (.lst (vBs o)) ∧
  ∀ S' x H', Grow nobody S H S' H' → EditAt A S' x ((Vaflxk.commonEnds (flat gs) o).1 : Nat) (((flat gs).length - (Vaflxk.commonEnds (flat gs) o).2 : Nat) : Int) (midOf o (Vaflxk.commonEnds (flat gs) o)) → Q (.ref x) H'
def sp_free_bytes (K : PySem.W.Frag) (A : Ads) : Sp := fun vs H Q E => vs.length = 2 ∧ ∃ (sh : Addr) (S : Hp) (s : Vaflxk.State) (gs : List G3) (i : Int), vs = [.ref sh, .int i] ∧ Same S H ∧ ShownAt K A S sh s gs ∧
  ((i < 0 ∨ ((flat gs).length : Int) ≤ i) → ∀ H', Same H H' → E (.ref A.c_NoSuchPlace) none H') ∧
  (¬ (i < 0 ∨ ((flat gs).length : Int) ≤ i) → ∀ S' a H', Grow nobody S H S' H' → S' a = some (.lst (vBs (Vaflxk.freeAt s (flat gs) ((Vaflxk.spansOf s.record s.program).getD []) i.toNat))) → Q (.ref a) H')
def sp_Shown_init (K : PySem.W.Frag) (A : Ads) : Sp := fun vs H Q E => vs.length = 3 ∧ ∃ (p dx pr rc : Addr) (S : Hp) (s : Vaflxk.State), vs = [.ref p, .ref pr, .ref rc] ∧ H p = some (.ins A.c_Shown dx []) ∧ Same S H ∧ S p = none ∧ ProgAt K A S pr s.program ∧ RecAt S rc s.record ∧ Vaflxa.goodRecord s.record = true ∧
  (∀ i, outsFrom s.record 0 s.program = .error i → ∀ H' d, (∀ b o, H b = some o → b ≠ p → H' b = some o) → H' d = some (.xd (PySem.OeX.fo_NoOutput [.int (i : Nat)])) → E (.ref A.c_NoOutput) (some d) H') ∧
  (∀ gs, outsFrom s.record 0 s.program = .ok gs → ∀ S' H' ga oa ws, Grow (fun b => b = p) S H S' H' → H' p = some (.ins A.c_Shown dx (fs_Shown (.ref pr) (.ref rc) (.ref ga) (.ref oa))) → S' ga = some (.lst ws) → Paired (IsGiven A S') ws gs → S' oa = some (.lst (vBs (flat gs))) → Q .non H')
/-! ### the desk's further calls -/
def sp_edited_record (K : PySem.W.Frag) (A : Ads) : Sp := fun vs H Q E => vs.length = 2 ∧ ∃ (dk dx pa ca : Addr) (S : Hp) (s : Vaflxk.State) (i j : Int) (u : List UInt8), vs = [.ref dk, .ref ca] ∧ DeskAt K A S H dk dx pa s ∧ CallIs A S ca [i, j] (Vaflxk.numbers u) ∧ u.length ≤ 20000 ∧
  (∀ n, outsFrom s.record 0 s.program = .error n → ∀ H' d, Same H H' → H' d = some (.xd (PySem.OeX.fo_NoOutput [.int (n : Nat)])) → E (.ref A.c_NoOutput) (some d) H') ∧
  (∀ gs, outsFrom s.record 0 s.program = .ok gs → (∀ r, outc s gs i j u = .ok r → ∀ S' a H', Grow nobody S H S' H' → RecAt S' a r → Q (.ref a) H') ∧ (∀ c C, outc s gs i j u = .error c → ErrIs A c C → ∀ H', Same H H' → E (.ref C) none H'))
def sp_change_record (K : PySem.W.Frag) (A : Ads) : Sp := fun vs H Q _ => vs.length = 2 ∧ ∃ (dk dx pa rc : Addr) (S : Hp) (s : Vaflxk.State) (r : Vaflxk.Record), vs = [.ref dk, .ref rc] ∧ DeskAt K A S H dk dx pa s ∧ RecAt S rc r ∧ Vaflxa.goodRecord r = true ∧
  ∀ H', Grow (two dk pa) S H S H' → DeskAt K A S H' dk dx pa ⟨s.program, r, Vaflxk.pastWith s.past s.record⟩ → Q .non H'
def ErrTells (A : Ads) (s : Vaflxk.State) (k : Vaflxk.Call) (C : Addr) (d : Option Addr) (H : Hp) : Prop := (∃ (i : Nat) (x : Addr), C = A.c_NoOutput ∧ d = some x ∧ H x = some (.xd (PySem.OeX.fo_NoOutput [.int (i : Nat)])) ∧ Vaflxk.step s k = (s, [1, Vaflxk.nat i])) ∨
  (∃ e : Int, ErrIs A e C ∧ d = none ∧ Vaflxk.step s k = (s, [e]))
/-- a call is answered, or an error tells its answer -/
def spAnswerE (K : PySem.W.Frag) (A : Ads) (row : Vaflxk.Call → Hp → Addr → Prop) : Sp := fun vs H Q E => vs.length = 2 ∧ ∃ dk dx pa ca s k S, vs = [.ref dk, .ref ca] ∧ DeskAt K A S H dk dx pa s ∧ row k S ca ∧ (∀ C d H', Same H H' → ErrTells A s k C d H' → E (.ref C) d H') ∧
  (∀ S' H' pa' a, Grow (two dk pa) S H S' H' → DeskAt K A S' H' dk dx pa' (Vaflxk.step s k).1 → (pa' = pa ∨ H pa' = none) → H' a = some (.lst (vI (Vaflxk.step s k).2)) → H a = none → a ≠ pa' → Q (.ref a) H')
def rowSpread (A : Ads) (k : Vaflxk.Call) (S : Hp) (ca : Addr) : Prop := match k with
  | .spread f i => ∃ row, CallIs A S ca [f, i] row
  | _ => False
def rowCould (A : Ads) (k : Vaflxk.Call) (S : Hp) (ca : Addr) : Prop := match k with
  | .could i j u => CallIs A S ca [i, j] (Vaflxk.numbers u) ∧ u.length ≤ 20000
  | _ => False
def rowEdit (A : Ads) (k : Vaflxk.Call) (S : Hp) (ca : Addr) : Prop := match k with
  | .edit i j u => CallIs A S ca [i, j] (Vaflxk.numbers u) ∧ u.length ≤ 20000
  | _ => False
def rowWhole (A : Ads) (k : Vaflxk.Call) (S : Hp) (ca : Addr) : Prop := match k with
  | .whole o => CallIs A S ca [] (Vaflxk.numbers o) ∧ o.length ≤ 20000
  | _ => False
def rowFree (A : Ads) (k : Vaflxk.Call) (S : Hp) (ca : Addr) : Prop := match k with
  | .free i => ∃ row, CallIs A S ca [i] row
  | _ => False
def sp_answer_spread (K : PySem.W.Frag) (A : Ads) : Sp := spAnswerE K A (rowSpread A)
def sp_answer_could (K : PySem.W.Frag) (A : Ads) : Sp := spAnswerE K A (rowCould A)
def sp_answer_edit (K : PySem.W.Frag) (A : Ads) : Sp := spAnswerE K A (rowEdit A)
def sp_answer_whole (K : PySem.W.Frag) (A : Ads) : Sp := spAnswerE K A (rowWhole A)
def sp_answer_free (K : PySem.W.Frag) (A : Ads) : Sp := spAnswerE K A (rowFree A)
def ansTab (A : Ads) : List (Int × Addr) := [(0, A.f_answer_program), (1, A.f_answer_record), (2, A.f_answer_output), (3, A.f_answer_fields), (4, A.f_answer_sources), (5, A.f_answer_piece), (6, A.f_answer_spread), (7, A.f_answer_could), (8, A.f_answer_edit), (9, A.f_answer_whole), (10, A.f_answer_free), (11, A.f_answer_undo)]
def tb_Ans (K : PySem.W.Frag) (A : Ads) (f : Addr) (sp : Sp) : Prop := (f = A.f_answer_program ∧ sp = sp_answer_program K A) ∨ (f = A.f_answer_record ∧ sp = sp_answer_record K A) ∨ (f = A.f_answer_output ∧ sp = sp_answer_output K A) ∨ (f = A.f_answer_fields ∧ sp = sp_answer_fields K A) ∨
  (f = A.f_answer_sources ∧ sp = sp_answer_sources K A) ∨ (f = A.f_answer_piece ∧ sp = sp_answer_piece K A) ∨ (f = A.f_answer_spread ∧ sp = sp_answer_spread K A) ∨ (f = A.f_answer_could ∧ sp = sp_answer_could K A) ∨ (f = A.f_answer_edit ∧ sp = sp_answer_edit K A) ∨
  (f = A.f_answer_whole ∧ sp = sp_answer_whole K A) ∨ (f = A.f_answer_free ∧ sp = sp_answer_free K A) ∨ (f = A.f_answer_undo ∧ sp = sp_answer_undo K A)
end Oe
namespace Oe
open PySem PySem.Spec PyProof.Rows L2
def t_Reader_stands_within (K : PySem.W.Frag) (A : Ads) (E : XK) : TS :=
  (tRet (tAndV (tOp rLtI (tFld K (tVar 0) "place") (tCB (rLenQ K) (tCons (tFld K (tVar 0) "text") tNil))) (tChain rLeI rLeI (tVar 1) (tOp (rIxL K) (tFld K (tVar 0) "text") (tFld K (tVar 0) "place")) (tVar 2))))
def t_Reader_stands (K : PySem.W.Frag) (A : Ads) (E : XK) : TS :=
  (tRet (tMet A.c_Reader "stands_within" (sp_Reader_stands_within K A) E0 (tVar 0) (tCons (tCB rOrd (tCons (tVar 1) tNil)) (tCons (tCB rOrd (tCons (tVar 1) tNil)) tNil))))
def t_Reader_skip (K : PySem.W.Frag) (A : Ads) (E : XK) : TS :=
  (tSeq (tIfS (tNot (tB (tMet A.c_Reader "stands" (sp_Reader_stands K A) E0 (tVar 0) (tCons (tVar 1) tNil)))) (tRet (tC (.bl false))) tNext) (tSeq (sFldAug K (tVar 0) (tC (.int 1)) L2.rAdd "place") (tRet (tC (.bl true)))))
def t_Reader_take (K : PySem.W.Frag) (A : Ads) (E : XK) : TS :=
  (tSeq (tIfS (tNot (tB (tMet A.c_Reader "stands_within" (sp_Reader_stands_within K A) E0 (tVar 0) (tCons (tVar 1) (tCons (tVar 2) tNil))))) (tErr A.c_Fault 2 PySem.OeX.fo_Fault E (tCons (tC (.int 1)) (tCons (tFld K (tVar 0) "place") tNil))) tNext) (tSeq (tAsg (tOp (rIxL K) (tFld K (tVar 0) "text") (tFld K (tVar 0) "place")) (gName 3)) (tSeq (sFldAug K (tVar 0) (tC (.int 1)) L2.rAdd "place") (tRet (tVar 3)))))
def t_Reader_need (K : PySem.W.Frag) (A : Ads) (E : XK) : TS :=
  (tDrop (tMet A.c_Reader "take" (sp_Reader_take K A) E (tVar 0) (tCons (tCB rOrd (tCons (tVar 1) tNil)) (tCons (tCB rOrd (tCons (tVar 1) tNil)) tNil))))
def t_read_constant (K : PySem.W.Frag) (A : Ads) (E : XK) : TS :=
  (tSeq (tAsg (tFld K (tVar 0) "place") (gName 1)) (tSeq (tDrop (tMet A.c_Reader "need" (sp_Reader_need K A) E (tVar 0) (tCons (tC (.str "\"")) tNil))) (tSeq (tAsg (tLst tNil) (gName 2)) (tSeq (tWhile (tB (tC (.bl true))) (tSeq (tAsg (tMet A.c_Reader "take" (sp_Reader_take K A) E (tVar 0) (tCons (tC (.int 32)) (tCons (tC (.int 126)) tNil))) (gName 3)) (tSeq (tIfS (tAnd (tTest (tOp rEq (tVar 3) (tCB rOrd (tCons (tC (.str "\"")) tNil)))) (tNot (tB (tMet A.c_Reader "skip" (sp_Reader_skip K A) E0 (tVar 0) (tCons (tC (.str "\"")) tNil))))) tBreak tNext) (tDrop (tBM K "list" rAppend (tVar 2) (tCons (tVar 3) tNil)))))) (tSeq (tIfS (tOr (tTest (tOp rEq (tCB (rLenQ K) (tCons (tVar 2) tNil)) (tC (.int 0)))) (tTest (tOp rGtI (tCB (rLenQ K) (tCons (tVar 2) tNil)) (tC (.int 12))))) (tErr A.c_Fault 2 PySem.OeX.fo_Fault E (tCons (tC (.int 2)) (tCons (tVar 1) tNil))) tNext) (tRet (tNew A.c_Constant 1 fo_Constant (tCons (tVar 2) tNil))))))))
def t_read_digit (K : PySem.W.Frag) (A : Ads) (E : XK) : TS :=
  (tRet (tOp rSubI (tMet A.c_Reader "take" (sp_Reader_take K A) E (tVar 0) (tCons (tCB rOrd (tCons (tC (.str "0")) tNil)) (tCons (tCB rOrd (tCons (tC (.str "9")) tNil)) tNil))) (tCB rOrd (tCons (tC (.str "0")) tNil))))
def t_read_number (K : PySem.W.Frag) (A : Ads) (E : XK) : TS :=
  (tSeq (tAsg (tFld K (tVar 0) "place") (gName 3)) (tSeq (tAsg (tLst (tCons (tDef (sp_read_digit K A) E (tCons (tVar 0) tNil)) tNil)) (gName 4)) (tSeq (tWhile (tB (tMet A.c_Reader "stands_within" (sp_Reader_stands_within K A) E0 (tVar 0) (tCons (tCB rOrd (tCons (tC (.str "0")) tNil)) (tCons (tCB rOrd (tCons (tC (.str "9")) tNil)) tNil)))) (tDrop (tBM K "list" rAppend (tVar 4) (tCons (tDef (sp_read_digit K A) E (tCons (tVar 0) tNil)) tNil)))) (tSeq (tIfS (tOr (tTest (tOp rGtI (tCB (rLenQ K) (tCons (tVar 4) tNil)) (tC (.int 2)))) (tAnd (tTest (tOp rEq (tCB (rLenQ K) (tCons (tVar 4) tNil)) (tC (.int 2)))) (tTest (tOp rEq (tOp (rIxL K) (tVar 4) (tC (.int 0))) (tC (.int 0)))))) (tErr A.c_Fault 2 PySem.OeX.fo_Fault E (tCons (tC (.int 3)) (tCons (tVar 3) tNil))) tNext) (tSeq (tAsg (tC (.int 0)) (gName 5)) (tSeq (tFor (iList K (tVar 4)) (gName 6) (tAsg (tOp rAddI (tOp rMulI (tVar 5) (tC (.int 10))) (tVar 6)) (gName 5))) (tSeq (tIfS (tOr (tTest (tOp rLtI (tVar 5) (tVar 1))) (tTest (tOp rGtI (tVar 5) (tVar 2)))) (tErr A.c_Fault 2 PySem.OeX.fo_Fault E (tCons (tC (.int 3)) (tCons (tVar 3) tNil))) tNext) (tRet (tVar 5)))))))))
def t_in_spans (K : PySem.W.Frag) (A : Ads) (E : XK) : TS :=
  (tSeq (tFor (iList K (tVar 1)) (gTup K 2 (gCons (gName 2) (gCons (gName 3) gNil))) (tIfS (tTest (tChain rLeI rLeI (tVar 2) (tVar 0) (tVar 3))) (tRet (tC (.bl true))) tNext)) (tRet (tC (.bl false))))
def t_is_letter_or_digit (K : PySem.W.Frag) (A : Ads) (E : XK) : TS :=
  (tRet (tDef (sp_in_spans K A) E0 (tCons (tVar 0) (tCons (tCB (rListQ K) (tCons (tC (.ref A.g_LETTERS_AND_DIGITS)) tNil)) tNil))))
def t_read_quoted (K : PySem.W.Frag) (A : Ads) (E : XK) : TS :=
  (tSeq (tAsg (tFld K (tVar 0) "place") (gName 1)) (tSeq (tAsg (tMet A.c_Reader "take" (sp_Reader_take K A) E (tVar 0) (tCons (tC (.int 33)) (tCons (tC (.int 126)) tNil))) (gName 2)) (tSeq (tIfS (tB (tDef (sp_is_letter_or_digit K A) E0 (tCons (tVar 2) tNil))) (tErr A.c_Fault 2 PySem.OeX.fo_Fault E (tCons (tC (.int 1)) (tCons (tVar 1) tNil))) tNext) (tRet (tLst (tCons (tTup (tCons (tVar 2) (tCons (tVar 2) tNil))) tNil))))))
def t_read_class (K : PySem.W.Frag) (A : Ads) (E : XK) : TS :=
  (tSeq (tIfS (tB (tMet A.c_Reader "skip" (sp_Reader_skip K A) E0 (tVar 0) (tCons (tC (.str "'")) tNil))) (tRet (tDef (sp_read_quoted K A) E (tCons (tVar 0) tNil))) tNext) (tSeq (tFor (iTup K (tC (.ref A.g_CLASSES))) (gTup K 2 (gCons (gName 1) (gCons (gName 2) gNil))) (tIfS (tB (tMet A.c_Reader "skip" (sp_Reader_skip K A) E0 (tVar 0) (tCons (tVar 1) tNil))) (tRet (tCB (rListQ K) (tCons (tVar 2) tNil))) tNext)) (tErr A.c_Fault 2 PySem.OeX.fo_Fault E (tCons (tC (.int 1)) (tCons (tFld K (tVar 0) "place") tNil)))))
def t_read_border (K : PySem.W.Frag) (A : Ads) (E : XK) : TS :=
  (tSeq (tAsg (tFld K (tVar 0) "place") (gName 1)) (tSeq (tAsg (tDef (sp_read_class K A) E (tCons (tVar 0) tNil)) (gName 2)) (tSeq (tDrop (tMet A.c_Reader "need" (sp_Reader_need K A) E (tVar 0) (tCons (tC (.str "|")) tNil))) (tSeq (tAsg (tDef (sp_read_class K A) E (tCons (tVar 0) tNil)) (gName 3)) (tSeq (tIfS (tAnd (tNot (tTru K (tVar 2))) (tNot (tTru K (tVar 3)))) (tErr A.c_Fault 2 PySem.OeX.fo_Fault E (tCons (tC (.int 4)) (tCons (tVar 1) tNil))) tNext) (tSeq (tIfS (tB (tMet A.c_Reader "skip" (sp_Reader_skip K A) E0 (tVar 0) (tCons (tC (.str "+")) tNil))) (tRet (tNew A.c_Border 4 fo_Border (tCons (tVar 2) (tCons (tVar 3) (tCons (tDef (sp_read_number K A) E (tCons (tVar 0) (tCons (tC (.int 1)) (tCons (tC (.int 40)) tNil)))) (tCons (tC (.bl false)) tNil)))))) tNext) (tSeq (tDrop (tMet A.c_Reader "need" (sp_Reader_need K A) E (tVar 0) (tCons (tC (.str "-")) tNil))) (tRet (tNew A.c_Border 4 fo_Border (tCons (tVar 2) (tCons (tVar 3) (tCons (tDef (sp_read_number K A) E (tCons (tVar 0) (tCons (tC (.int 1)) (tCons (tC (.int 40)) tNil)))) (tCons (tC (.bl true)) tNil)))))))))))))
def t_read_position (K : PySem.W.Frag) (A : Ads) (E : XK) : TS :=
  (tSeq (tIfS (tB (tMet A.c_Reader "skip" (sp_Reader_skip K A) E0 (tVar 0) (tCons (tC (.str "+")) tNil))) (tRet (tNew A.c_FromStart 1 fo_FromStart (tCons (tDef (sp_read_number K A) E (tCons (tVar 0) (tCons (tC (.int 0)) (tCons (tC (.int 60)) tNil)))) tNil))) tNext) (tSeq (tIfS (tB (tMet A.c_Reader "skip" (sp_Reader_skip K A) E0 (tVar 0) (tCons (tC (.str "-")) tNil))) (tRet (tNew A.c_FromEnd 1 fo_FromEnd (tCons (tDef (sp_read_number K A) E (tCons (tVar 0) (tCons (tC (.int 0)) (tCons (tC (.int 60)) tNil)))) tNil))) tNext) (tRet (tDef (sp_read_border K A) E (tCons (tVar 0) tNil)))))
def t_read_turn (K : PySem.W.Frag) (A : Ads) (E : XK) : TS :=
  (tSeq (tFor (iTup K (tTup (tCons (tC (.str "^")) (tCons (tC (.str "_")) (tCons (tC (.str "~")) tNil))))) (gName 1) (tIfS (tB (tMet A.c_Reader "skip" (sp_Reader_skip K A) E0 (tVar 0) (tCons (tVar 1) tNil))) (tRet (tVar 1)) tNext)) (tRet (tC (.str ""))))
def t_read_part (K : PySem.W.Frag) (A : Ads) (E : XK) : TS :=
  (tSeq (tAsg (tOp rSubI (tMet A.c_Reader "take" (sp_Reader_take K A) E (tVar 0) (tCons (tCB rOrd (tCons (tC (.str "1")) tNil)) (tCons (tCB rOrd (tCons (tC (.str "4")) tNil)) tNil))) (tCB rOrd (tCons (tC (.str "0")) tNil))) (gName 1)) (tSeq (tDrop (tMet A.c_Reader "need" (sp_Reader_need K A) E (tVar 0) (tCons (tC (.str "[")) tNil))) (tSeq (tAsg (tDef (sp_read_position K A) E (tCons (tVar 0) tNil)) (gName 2)) (tSeq (tDrop (tMet A.c_Reader "need" (sp_Reader_need K A) E (tVar 0) (tCons (tC (.str ":")) tNil))) (tSeq (tAsg (tDef (sp_read_position K A) E (tCons (tVar 0) tNil)) (gName 3)) (tSeq (tDrop (tMet A.c_Reader "need" (sp_Reader_need K A) E (tVar 0) (tCons (tC (.str "]")) tNil))) (tRet (tNew A.c_Part 4 fo_Part (tCons (tVar 1) (tCons (tVar 2) (tCons (tVar 3) (tCons (tDef (sp_read_turn K A) E0 (tCons (tVar 0) tNil)) tNil))))))))))))
def t_read_piece (K : PySem.W.Frag) (A : Ads) (E : XK) : TS :=
  (tSeq (tIfS (tB (tMet A.c_Reader "stands" (sp_Reader_stands K A) E0 (tVar 0) (tCons (tC (.str "\"")) tNil))) (tRet (tDef (sp_read_constant K A) E (tCons (tVar 0) tNil))) tNext) (tRet (tDef (sp_read_part K A) E (tCons (tVar 0) tNil))))
def t_Reader_need_end (K : PySem.W.Frag) (A : Ads) (E : XK) : TS :=
  (tIfS (tTest (tOp rLtI (tFld K (tVar 0) "place") (tCB (rLenQ K) (tCons (tFld K (tVar 0) "text") tNil)))) (tErr A.c_Fault 2 PySem.OeX.fo_Fault E (tCons (tC (.int 1)) (tCons (tFld K (tVar 0) "place") tNil))) tNext)
def t_read_program (K : PySem.W.Frag) (A : Ads) (E : XK) : TS :=
  (tSeq (tAsg (tNew A.c_Reader 1 fo_Reader (tCons (tVar 0) tNil)) (gName 1)) (tSeq (tAsg (tLst tNil) (gName 2)) (tSeq (tIfS (tNot (tB (tMet A.c_Reader "skip" (sp_Reader_skip K A) E0 (tVar 1) (tCons (tC (.str "0")) tNil)))) (tSeq (tDrop (tBM K "list" rAppend (tVar 2) (tCons (tDef (sp_read_piece K A) E (tCons (tVar 1) tNil)) tNil))) (tWhile (tB (tMet A.c_Reader "skip" (sp_Reader_skip K A) E0 (tVar 1) (tCons (tC (.str "&")) tNil))) (tSeq (tIfS (tTest (tOp rEq (tCB (rLenQ K) (tCons (tVar 2) tNil)) (tC (.int 6)))) (tErr A.c_Fault 2 PySem.OeX.fo_Fault E (tCons (tC (.int 5)) (tCons (tFld K (tVar 1) "place") tNil))) tNext) (tDrop (tBM K "list" rAppend (tVar 2) (tCons (tDef (sp_read_piece K A) E (tCons (tVar 1) tNil)) tNil)))))) tNext) (tSeq (tDrop (tMet A.c_Reader "need_end" (sp_Reader_need_end K A) E (tVar 1) tNil)) (tRet (tVar 2))))))
def t_stands_behind (K : PySem.W.Frag) (A : Ads) (E : XK) : TS :=
  (tRet (tAndV (tChain rLeI rLtI (tC (.int 0)) (tVar 1) (tCB (rLenQ K) (tCons (tVar 0) tNil))) (tDef (sp_in_spans K A) E0 (tCons (tOp (rIxL K) (tVar 0) (tVar 1)) (tCons (tVar 2) tNil)))))
def t_begins (K : PySem.W.Frag) (A : Ads) (E : XK) : TS :=
  (tSeq (tIfS (tNot (tTru K (tVar 2))) (tRet (tC (.bl true))) tNext) (tRet (tAndV (tDef (sp_stands_behind K A) E0 (tCons (tVar 0) (tCons (tVar 1) (tCons (tVar 2) tNil)))) (tNotV (tDef (sp_stands_behind K A) E0 (tCons (tVar 0) (tCons (tOp rSubI (tVar 1) (tC (.int 1))) (tCons (tVar 2) tNil))))))))
def t_ends (K : PySem.W.Frag) (A : Ads) (E : XK) : TS :=
  (tSeq (tIfS (tNot (tTru K (tVar 2))) (tRet (tC (.bl true))) tNext) (tRet (tAndV (tDef (sp_stands_behind K A) E0 (tCons (tVar 0) (tCons (tOp rSubI (tVar 1) (tC (.int 1))) (tCons (tVar 2) tNil)))) (tNotV (tDef (sp_stands_behind K A) E0 (tCons (tVar 0) (tCons (tVar 1) (tCons (tVar 2) tNil))))))))
def t_borders (K : PySem.W.Frag) (A : Ads) (E : XK) : TS :=
  (tSeq (tAsg (tLst tNil) (gName 3)) (tSeq (tFor (iRng1 (tCons (tOp rAddI (tCB (rLenQ K) (tCons (tVar 0) tNil)) (tC (.int 1))) tNil)) (gName 4) (tIfS (tAnd (tB (tDef (sp_ends K A) E0 (tCons (tVar 0) (tCons (tVar 4) (tCons (tVar 1) tNil))))) (tB (tDef (sp_begins K A) E0 (tCons (tVar 0) (tCons (tVar 4) (tCons (tVar 2) tNil)))))) (tDrop (tBM K "list" rAppend (tVar 3) (tCons (tVar 4) tNil))) tNext)) (tRet (tVar 3))))
def t_FromStart_place_in (K : PySem.W.Frag) (A : Ads) (E : XK) : TS :=
  (tRet (tIf (tTest (tOp rLeI (tFld K (tVar 0) "distance") (tCB (rLenQ K) (tCons (tVar 1) tNil)))) (tFld K (tVar 0) "distance") (tC .non)))
def t_FromEnd_place_in (K : PySem.W.Frag) (A : Ads) (E : XK) : TS :=
  (tRet (tIf (tTest (tOp rLeI (tFld K (tVar 0) "distance") (tCB (rLenQ K) (tCons (tVar 1) tNil)))) (tOp rSubI (tCB (rLenQ K) (tCons (tVar 1) tNil)) (tFld K (tVar 0) "distance")) (tC .non)))
def t_Border_place_in (K : PySem.W.Frag) (A : Ads) (E : XK) : TS :=
  (tSeq (tAsg (tDef (sp_borders K A) E0 (tCons (tVar 1) (tCons (tFld K (tVar 0) "left") (tCons (tFld K (tVar 0) "right") tNil)))) (gName 2)) (tSeq (tIfS (tTest (tOp rGtI (tFld K (tVar 0) "nth") (tCB (rLenQ K) (tCons (tVar 2) tNil)))) (tRet (tC .non)) tNext) (tSeq (tIfS (tB (tFld K (tVar 0) "from_right")) (tRet (tOp (rIxL K) (tVar 2) (tOp rSubI (tCB (rLenQ K) (tCons (tVar 2) tNil)) (tFld K (tVar 0) "nth")))) tNext) (tRet (tOp (rIxL K) (tVar 2) (tOp rSubI (tFld K (tVar 0) "nth") (tC (.int 1))))))))
def t_capital (K : PySem.W.Frag) (A : Ads) (E : XK) : TS :=
  (tRet (tIf (tTest (tChain rLeI rLeI (tC (.int 97)) (tVar 0) (tC (.int 122)))) (tOp rSubI (tVar 0) (tC (.int 32))) (tVar 0)))
def t_small (K : PySem.W.Frag) (A : Ads) (E : XK) : TS :=
  (tRet (tIf (tTest (tChain rLeI rLeI (tC (.int 65)) (tVar 0) (tC (.int 90)))) (tOp rAddI (tVar 0) (tC (.int 32))) (tVar 0)))
def t_turned (K : PySem.W.Frag) (A : Ads) (E : XK) : TS :=
  (tSeq (tIfS (tTest (tOp rEq (tVar 1) (tC (.str "^")))) (tRet (tLc (iList K (tVar 0)) (gName 2) tYes (tDef (sp_capital K A) E0 (tCons (tVar 2) tNil)) [2])) tNext) (tSeq (tIfS (tTest (tOp rEq (tVar 1) (tC (.str "_")))) (tRet (tLc (iList K (tVar 0)) (gName 2) tYes (tDef (sp_small K A) E0 (tCons (tVar 2) tNil)) [2])) tNext) (tSeq (tIfS (tTest (tOp rEq (tVar 1) (tC (.str "~")))) (tRet (tOp L2.rCat (tLc (iList K (tSl (rSlL K) (tVar 0) tNoPart (tPart (tC (.int 1))))) (gName 2) tYes (tDef (sp_capital K A) E0 (tCons (tVar 2) tNil)) [2]) (tLc (iList K (tSl (rSlL K) (tVar 0) (tPart (tC (.int 1))) tNoPart)) (gName 2) tYes (tDef (sp_small K A) E0 (tCons (tVar 2) tNil)) [2]))) tNext) (tRet (tVar 0)))))
def t_Given_source (K : PySem.W.Frag) (A : Ads) (E : XK) : TS :=
  (tSeq (tIfS (tTest (tOp rEq (tFld K (tVar 0) "field") (tC (.int 0)))) (tRet (tLst (tCons (tC (.int 0)) (tCons (tC (.int 0)) tNil)))) tNext) (tRet (tLst (tCons (tFld K (tVar 0) "field") (tCons (tOp rAddI (tFld K (tVar 0) "start") (tVar 1)) tNil)))))
def t_Constant_given_on (K : PySem.W.Frag) (A : Ads) (E : XK) : TS :=
  (tRet (tNew A.c_Given 3 fo_Given (tCons (tCB (rListQ K) (tCons (tFld K (tVar 0) "text") tNil)) (tCons (tC (.int 0)) (tCons (tC (.int 0)) tNil)))))
def t_Part_given_on (K : PySem.W.Frag) (A : Ads) (E : XK) : TS :=
  (tSeq (tIfS (tTest (tOp rGtI (tFld K (tVar 0) "field") (tCB (rLenQ K) (tCons (tVar 1) tNil)))) (tRet (tC .non)) tNext) (tSeq (tAsg (tOp (rIxL K) (tVar 1) (tOp rSubI (tFld K (tVar 0) "field") (tC (.int 1)))) (gName 2)) (tSeq (tAsg (tMetD (tb_Pos K A) "place_in" E0 (tFld K (tVar 0) "first") (tCons (tVar 2) tNil)) (gName 3)) (tSeq (tAsg (tMetD (tb_Pos K A) "place_in" E0 (tFld K (tVar 0) "last") (tCons (tVar 2) tNil)) (gName 4)) (tSeq (tIfS (tOr (tTest (tOp rIsNo (tVar 3) (tC .non))) (tOr (tTest (tOp rIsNo (tVar 4) (tC .non))) (tTest (tOp rGeI (tVar 3) (tVar 4))))) (tRet (tC .non)) tNext) (tRet (tNew A.c_Given 3 fo_Given (tCons (tDef (sp_turned K A) E0 (tCons (tSl (rSlL K) (tVar 2) (tPart (tVar 3)) (tPart (tVar 4))) (tCons (tFld K (tVar 0) "turn") tNil))) (tCons (tFld K (tVar 0) "field") (tCons (tVar 3) tNil))))))))))
def t_all_given (K : PySem.W.Frag) (A : Ads) (E : XK) : TS :=
  (tSeq (tAsg (tLst tNil) (gName 2)) (tSeq (tFor (iEnum K (tCons (tVar 0) tNil)) (gTup K 2 (gCons (gName 3) (gCons (gName 4) gNil))) (tSeq (tAsg (tMetD (tb_Piece K A) "given_on" E0 (tVar 4) (tCons (tVar 1) tNil)) (gName 5)) (tSeq (tIfS (tTest (tOp rIsNo (tVar 5) (tC .non))) (tErr A.c_NoOutput 1 PySem.OeX.fo_NoOutput E (tCons (tVar 3) tNil)) tNext) (tDrop (tBM K "list" rAppend (tVar 2) (tCons (tVar 5) tNil)))))) (tRet (tVar 2))))
def t_joined (K : PySem.W.Frag) (A : Ads) (E : XK) : TS :=
  (tSeq (tAsg (tLst tNil) (gName 1)) (tSeq (tFor (iList K (tVar 0)) (gName 2) (tDrop (tBM K "list" rExtend (tVar 1) (tCons (tFld K (tVar 2) "text") tNil)))) (tRet (tVar 1))))
def t_is_plain (K : PySem.W.Frag) (A : Ads) (E : XK) : TS :=
  (tSeq (tIfS (tTest (tOp rGtI (tCB (rLenQ K) (tCons (tVar 0) tNil)) (tVar 1))) (tRet (tC (.bl false))) tNext) (tRet (tCB (rAll K) (tCons (tLc (iList K (tVar 0)) (gName 2) tYes (tChain rLeI rLeI (tC (.int 32)) (tVar 2) (tC (.int 126))) [2]) tNil))))
def t_is_field (K : PySem.W.Frag) (A : Ads) (E : XK) : TS :=
  (tRet (tDef (sp_is_plain K A) E0 (tCons (tVar 0) (tCons (tC (.int 40)) tNil))))
def t_is_record (K : PySem.W.Frag) (A : Ads) (E : XK) : TS :=
  (tSeq (tIfS (tOr (tTest (tOp rEq (tCB (rLenQ K) (tCons (tVar 0) tNil)) (tC (.int 0)))) (tTest (tOp rGtI (tCB (rLenQ K) (tCons (tVar 0) tNil)) (tC (.int 4))))) (tRet (tC (.bl false))) tNext) (tRet (tCB (rAll K) (tCons (tLc (iList K (tVar 0)) (gName 1) tYes (tDef (sp_is_field K A) E0 (tCons (tVar 1) tNil)) [1]) tNil))))
def t_split_texts (K : PySem.W.Frag) (A : Ads) (E : XK) : TS :=
  (tSeq (tAsg (tLst tNil) (gName 1)) (tSeq (tAsg (tC (.int 0)) (gName 2)) (tSeq (tWhile (tTest (tOp rLtI (tVar 2) (tCB (rLenQ K) (tCons (tVar 0) tNil)))) (tSeq (tAsg (tOp rAddI (tVar 2) (tC (.int 1))) (gName 3)) (tSeq (tAsg (tOp rAddI (tVar 3) (tOp (rIxL K) (tVar 0) (tVar 2))) (gName 2)) (tDrop (tBM K "list" rAppend (tVar 1) (tCons (tSl (rSlL K) (tVar 0) (tPart (tVar 3)) (tPart (tVar 2))) tNil)))))) (tRet (tVar 1)))))
def t_told_record (K : PySem.W.Frag) (A : Ads) (E : XK) : TS :=
  (tSeq (tAsg (tLst (tCons (tCB (rLenQ K) (tCons (tVar 0) tNil)) tNil)) (gName 1)) (tSeq (tFor (iList K (tVar 0)) (gName 2) (tSeq (tDrop (tBM K "list" rAppend (tVar 1) (tCons (tCB (rLenQ K) (tCons (tVar 2) tNil)) tNil))) (tDrop (tBM K "list" rExtend (tVar 1) (tCons (tVar 2) tNil))))) (tRet (tVar 1))))
def t_split_calls (K : PySem.W.Frag) (A : Ads) (E : XK) : TS :=
  (tSeq (tAsg (tLst tNil) (gName 1)) (tSeq (tAsg (tC (.int 0)) (gName 2)) (tSeq (tWhile (tTest (tOp rLtI (tVar 2) (tCB (rLenQ K) (tCons (tVar 0) tNil)))) (tSeq (tAsg (tOp (rIxL K) (tVar 0) (tVar 2)) (gName 3)) (tSeq (tAsg (tOp (rIxT K) (tC (.ref A.g_SHAPES)) (tVar 3)) (gName 4)) (tSeq (tAsg (tOp rAddI (tVar 2) (tC (.int 1))) (gName 5)) (tSeq (tAsg (tOp rAddI (tVar 5) (tOp (rIxT K) (tVar 4) (tC (.int 0)))) (gName 2)) (tSeq (tAsg (tSl (rSlL K) (tVar 0) (tPart (tVar 5)) (tPart (tVar 2))) (gName 6)) (tSeq (tAsg (tLst tNil) (gName 7)) (tSeq (tIfS (tB (tOp (rIxT K) (tVar 4) (tC (.int 1)))) (tSeq (tAsg (tOp rAddI (tVar 2) (tC (.int 1))) (gName 5)) (tSeq (tAsg (tOp rAddI (tVar 5) (tOp (rIxL K) (tVar 0) (tVar 2))) (gName 2)) (tAsg (tSl (rSlL K) (tVar 0) (tPart (tVar 5)) (tPart (tVar 2))) (gName 7)))) tNext) (tDrop (tBM K "list" rAppend (tVar 1) (tCons (tNew A.c_Call 3 fo_Call (tCons (tVar 3) (tCons (tVar 6) (tCons (tVar 7) tNil)))) tNil))))))))))) (tRet (tVar 1)))))
def t_need_text (K : PySem.W.Frag) (A : Ads) (E : XK) : TS :=
  (tIfS (tNot (tB (tDef (sp_is_plain K A) E0 (tCons (tVar 0) (tCons (tC (.int 240)) tNil))))) (tErr0 A.c_NoSuchText E) tNext)
def t_common_beginning (K : PySem.W.Frag) (A : Ads) (E : XK) : TS :=
  (tSeq (tAsg (tCB rMin2 (tCons (tCB (rLenQ K) (tCons (tVar 0) tNil)) (tCons (tCB (rLenQ K) (tCons (tVar 1) tNil)) tNil))) (gName 2)) (tSeq (tAsg (tC (.int 0)) (gName 3)) (tSeq (tWhile (tAnd (tTest (tOp rLtI (tVar 3) (tVar 2))) (tTest (tOp rEq (tOp (rIxL K) (tVar 0) (tVar 3)) (tOp (rIxL K) (tVar 1) (tVar 3))))) (tAug 3 (tC (.int 1)) (ipI fun i j => i + j))) (tRet (tVar 3)))))
def t_common_end (K : PySem.W.Frag) (A : Ads) (E : XK) : TS :=
  (tSeq (tAsg (tOp rSubI (tCB rMin2 (tCons (tCB (rLenQ K) (tCons (tVar 0) tNil)) (tCons (tCB (rLenQ K) (tCons (tVar 1) tNil)) tNil))) (tVar 2)) (gName 3)) (tSeq (tAsg (tC (.int 0)) (gName 4)) (tSeq (tWhile (tAnd (tTest (tOp rLtI (tVar 4) (tVar 3))) (tTest (tOp rEq (tOp (rIxL K) (tVar 0) (tOp rSubI (tOp rSubI (tCB (rLenQ K) (tCons (tVar 0) tNil)) (tC (.int 1))) (tVar 4))) (tOp (rIxL K) (tVar 1) (tOp rSubI (tOp rSubI (tCB (rLenQ K) (tCons (tVar 1) tNil)) (tC (.int 1))) (tVar 4)))))) (tAug 4 (tC (.int 1)) (ipI fun i j => i + j))) (tRet (tVar 4)))))
def t_narrowed (K : PySem.W.Frag) (A : Ads) (E : XK) : TS :=
  (tSeq (tAsg (tSl (rSlL K) (tVar 0) (tPart (tFld K (tVar 1) "start")) (tPart (tFld K (tVar 1) "end"))) (gName 2)) (tSeq (tAsg (tDef (sp_common_beginning K A) E0 (tCons (tVar 2) (tCons (tFld K (tVar 1) "text") tNil))) (gName 3)) (tSeq (tAsg (tDef (sp_common_end K A) E0 (tCons (tVar 2) (tCons (tFld K (tVar 1) "text") (tCons (tVar 3) tNil)))) (gName 4)) (tRet (tNew A.c_Edit 3 fo_Edit (tCons (tOp rAddI (tFld K (tVar 1) "start") (tVar 3)) (tCons (tOp rSubI (tFld K (tVar 1) "end") (tVar 4)) (tCons (tSl (rSlL K) (tFld K (tVar 1) "text") (tPart (tVar 3)) (tPart (tOp rSubI (tCB (rLenQ K) (tCons (tFld K (tVar 1) "text") tNil)) (tVar 4)))) tNil))))))))
def t_holders (K : PySem.W.Frag) (A : Ads) (E : XK) : TS :=
  (tSeq (tAsg (tLst tNil) (gName 2)) (tSeq (tAsg (tC (.int 0)) (gName 3)) (tSeq (tFor (iList K (tFld K (tVar 0) "givens")) (gName 4) (tSeq (tAsg (tOp rAddI (tVar 3) (tCB (rLenQ K) (tCons (tFld K (tVar 4) "text") tNil))) (gName 5)) (tSeq (tIfS (tAnd (tTest (tOp rGtI (tFld K (tVar 4) "field") (tC (.int 0)))) (tAnd (tTest (tOp rLeI (tVar 3) (tFld K (tVar 1) "start"))) (tTest (tOp rLeI (tFld K (tVar 1) "end") (tVar 5))))) (tDrop (tBM K "list" rAppend (tVar 2) (tCons (tTup (tCons (tVar 4) (tCons (tVar 3) tNil))) tNil))) tNext) (tAsg (tVar 5) (gName 3))))) (tRet (tVar 2)))))
def t_changed_record (K : PySem.W.Frag) (A : Ads) (E : XK) : TS :=
  (tSeq (tAsg (tOp (rIxL K) (tVar 0) (tOp rSubI (tFld K (tVar 1) "field") (tC (.int 1)))) (gName 4)) (tSeq (tAsg (tOp rSubI (tOp rAddI (tFld K (tVar 1) "start") (tFld K (tVar 3) "start")) (tVar 2)) (gName 5)) (tSeq (tAsg (tOp rSubI (tOp rAddI (tFld K (tVar 1) "start") (tFld K (tVar 3) "end")) (tVar 2)) (gName 6)) (tSeq (tAsg (tCB (rListQ K) (tCons (tVar 0) tNil)) (gName 7)) (tSeq (tAsg (tOp L2.rCat (tOp L2.rCat (tSl (rSlL K) (tVar 4) tNoPart (tPart (tVar 5))) (tFld K (tVar 3) "text")) (tSl (rSlL K) (tVar 4) (tPart (tVar 6)) tNoPart)) (gSub (tVar 7) (tOp rSubI (tFld K (tVar 1) "field") (tC (.int 1))) rSetL)) (tRet (tVar 7)))))))
def t_gives (K : PySem.W.Frag) (A : Ads) (E : XK) : TS :=
  (fun D σ H => (fun WW => (tRet (tOp (L2.rEqD K) (tDef (sp_joined K A) E0 (tCons (tDefS (sp_all_given K A) (WE WW) (tCons (tVar 0) (tCons (tVar 1) tNil))) tNil)) (tVar 2)))) (wMix K (fun _ _ _ _ => False) D [⟨(.one (.ref A.c_NoOutput)), none, (fun ea ecls ed => (tRet (tC (.bl false))))⟩]) D σ H)
def t_led_back (K : PySem.W.Frag) (A : Ads) (E : XK) : TS :=
  (tSeq (tAsg (tFld K (tVar 0) "output") (gName 2)) (tSeq (tIfS (tNot (tTest (tChain3 rLeI rLeI rLeI (tC (.int 0)) (tFld K (tVar 1) "start") (tFld K (tVar 1) "end") (tCB (rLenQ K) (tCons (tVar 2) tNil))))) (tErr0 A.c_NoSuchPlace E) tNext) (tSeq (tDrop (tDef (sp_need_text K A) E (tCons (tFld K (tVar 1) "text") tNil))) (tSeq (tAsg (tDef (sp_holders K A) E0 (tCons (tVar 0) (tCons (tVar 1) tNil))) (gName 3)) (tSeq (tIfS (tTest (tOp rEq (tCB (rLenQ K) (tCons (tVar 3) tNil)) (tC (.int 0)))) (tErr0 A.c_NoPart E) tNext) (tSeq (tAsg (tOp L2.rCat (tOp L2.rCat (tSl (rSlL K) (tVar 2) tNoPart (tPart (tFld K (tVar 1) "start"))) (tFld K (tVar 1) "text")) (tSl (rSlL K) (tVar 2) (tPart (tFld K (tVar 1) "end")) tNoPart)) (gName 4)) (tSeq (tAsg (tDef (sp_narrowed K A) E0 (tCons (tVar 2) (tCons (tVar 1) tNil))) (gName 5)) (tSeq (tFor (iList K (tVar 3)) (gTup K 2 (gCons (gName 6) (gCons (gName 7) gNil))) (tSeq (tAsg (tDef (sp_changed_record K A) E0 (tCons (tFld K (tVar 0) "record") (tCons (tVar 6) (tCons (tVar 7) (tCons (tVar 5) tNil))))) (gName 8)) (tIfS (tAnd (tB (tDef (sp_is_record K A) E0 (tCons (tVar 8) tNil))) (tB (tDef (sp_gives K A) E0 (tCons (tFld K (tVar 0) "program") (tCons (tVar 8) (tCons (tVar 4) tNil)))))) (tRet (tVar 8)) tNext))) (tErr0 A.c_NotLedBack E)))))))))
def t_is_led_back (K : PySem.W.Frag) (A : Ads) (E : XK) : TS :=
  (tSeq (fun D σ H => (fun WW => (tDrop (tDefS (sp_led_back K A) (WE WW) (tCons (tVar 0) (tCons (tVar 1) tNil))))) (wMix K (fun ecls ed _ H => E ecls ed H) D [⟨(.two (.ref A.c_NoPart) (.ref A.c_NotLedBack)), none, (fun ea ecls ed => (tRet (tC (.bl false))))⟩]) D σ H) (tRet (tC (.bl true))))
def t_whole_edit (K : PySem.W.Frag) (A : Ads) (E : XK) : TS :=
  (tRet (tDef (sp_narrowed K A) E0 (tCons (tFld K (tVar 0) "output") (tCons (tNew A.c_Edit 3 fo_Edit (tCons (tC (.int 0)) (tCons (tCB (rLenQ K) (tCons (tFld K (tVar 0) "output") tNil)) (tCons (tVar 1) tNil)))) tNil))))
def t_free_bytes (K : PySem.W.Frag) (A : Ads) (E : XK) : TS :=
  (tSeq (tAsg (tLst tNil) (gName 2)) (tSeq (tFor (iRng2 (tCons (tC (.int 32)) (tCons (tOp rAddI (tC (.int 126)) (tC (.int 1))) tNil))) (gName 3) (tIfS (tB (tDef (sp_is_led_back K A) E (tCons (tVar 0) (tCons (tNew A.c_Edit 3 fo_Edit (tCons (tVar 1) (tCons (tOp rAddI (tVar 1) (tC (.int 1))) (tCons (tLst (tCons (tVar 3) tNil)) tNil)))) tNil)))) (tDrop (tBM K "list" rAppend (tVar 2) (tCons (tVar 3) tNil))) tNext)) (tRet (tVar 2))))
def t_Shown_init (K : PySem.W.Frag) (A : Ads) (E : XK) : TS :=
  (tSeq (sFld K (tVar 0) (tVar 1) "program") (tSeq (sFld K (tVar 0) (tVar 2) "record") (tSeq (sFld K (tVar 0) (tDef (sp_all_given K A) E (tCons (tVar 1) (tCons (tVar 2) tNil))) "givens") (sFld K (tVar 0) (tDef (sp_joined K A) E0 (tCons (tFld K (tVar 0) "givens") tNil)) "output"))))
def t_edited_record (K : PySem.W.Frag) (A : Ads) (E : XK) : TS :=
  (tSeq (tAsg (tNew A.c_Edit 3 fo_Edit (tCons (tOp (rIxL K) (tFld K (tVar 1) "numbers") (tC (.int 0))) (tCons (tOp (rIxL K) (tFld K (tVar 1) "numbers") (tC (.int 1))) (tCons (tFld K (tVar 1) "row") tNil)))) (gName 2)) (tRet (tDef (sp_led_back K A) E (tCons (tMk A.c_Shown (sp_Shown_init K A) E (tCons (tFld K (tVar 0) "program") (tCons (tFld K (tVar 0) "record") tNil))) (tCons (tVar 2) tNil)))))
def t_change_record (K : PySem.W.Frag) (A : Ads) (E : XK) : TS :=
  (tSeq (tDrop (tBM K "list" rAppend (tFld K (tVar 0) "past") (tCons (tFld K (tVar 0) "record") tNil))) (tSeq (tIfS (tTest (tOp rGtI (tCB (rLenQ K) (tCons (tFld K (tVar 0) "past") tNil)) (tC (.int 50)))) (tDrop (tBM K "list" rPopAt (tFld K (tVar 0) "past") (tCons (tC (.int 0)) tNil))) tNext) (sFld K (tVar 0) (tVar 1) "record")))
def t_answer_program (K : PySem.W.Frag) (A : Ads) (E : XK) : TS :=
  (tSeq (tIfS (tTest (tOp rGtI (tCB (rLenQ K) (tCons (tFld K (tVar 1) "row") tNil)) (tC (.int 1000)))) (tRet (tLst (tCons (tUn (rU fun i => .int (-i)) (tC (.int 5))) tNil))) tNext) (tSeq (fun D σ H => (fun WW => (tAsg (tDefS (sp_read_program K A) (WE WW) (tCons (tFld K (tVar 1) "row") tNil)) (gName 2))) (wAs K (.ref A.c_Fault) 3 (fun ea ecls ed => (tRet (tLst (tCons (tErrF A.c_Fault "kind" ea ecls ed (tVar 3)) (tCons (tErrF A.c_Fault "place" ea ecls ed (tVar 3)) tNil))))) (fun _ _ _ _ => False) D) D σ H) (tSeq (sFld K (tVar 0) (tVar 2) "program") (tSeq (sFld K (tVar 0) (tLst tNil) "past") (tRet (tLst (tCons (tC (.int 0)) tNil)))))))
def t_answer_record (K : PySem.W.Frag) (A : Ads) (E : XK) : TS :=
  (tSeq (tAsg (tDef (sp_split_texts K A) E0 (tCons (tFld K (tVar 1) "row") tNil)) (gName 2)) (tSeq (tIfS (tNot (tB (tDef (sp_is_record K A) E0 (tCons (tVar 2) tNil)))) (tRet (tLst (tCons (tUn (rU fun i => .int (-i)) (tC (.int 1))) tNil))) tNext) (tSeq (sFld K (tVar 0) (tVar 2) "record") (tSeq (sFld K (tVar 0) (tLst tNil) "past") (tRet (tLst (tCons (tC (.int 0)) tNil)))))))
def t_answer_output (K : PySem.W.Frag) (A : Ads) (E : XK) : TS :=
  (tRet (tOp L2.rCat (tLst (tCons (tC (.int 0)) tNil)) (tDef (sp_joined K A) E0 (tCons (tDef (sp_all_given K A) E (tCons (tFld K (tVar 0) "program") (tCons (tFld K (tVar 0) "record") tNil))) tNil))))
def t_answer_fields (K : PySem.W.Frag) (A : Ads) (E : XK) : TS :=
  (tRet (tDef (sp_told_record K A) E0 (tCons (tFld K (tVar 0) "record") tNil)))
def t_answer_sources (K : PySem.W.Frag) (A : Ads) (E : XK) : TS :=
  (tSeq (tAsg (tLst (tCons (tC (.int 0)) tNil)) (gName 2)) (tSeq (tFor (iList K (tDef (sp_all_given K A) E (tCons (tFld K (tVar 0) "program") (tCons (tFld K (tVar 0) "record") tNil)))) (gName 3) (tFor (iRng1 (tCons (tCB (rLenQ K) (tCons (tFld K (tVar 3) "text") tNil)) tNil)) (gName 4) (tDrop (tBM K "list" rExtend (tVar 2) (tCons (tMet A.c_Given "source" (sp_Given_source K A) E0 (tVar 3) (tCons (tVar 4) tNil)) tNil))))) (tRet (tVar 2))))
def t_answer_piece (K : PySem.W.Frag) (A : Ads) (E : XK) : TS :=
  (tSeq (tAsg (tOp (rIxL K) (tFld K (tVar 1) "numbers") (tC (.int 0))) (gName 2)) (tSeq (tAsg (tDef (sp_all_given K A) E (tCons (tFld K (tVar 0) "program") (tCons (tFld K (tVar 0) "record") tNil))) (gName 3)) (tSeq (tIfS (tTest (tOp rLtI (tVar 2) (tC (.int 0)))) (tRet (tLst (tCons (tUn (rU fun i => .int (-i)) (tC (.int 2))) tNil))) tNext) (tSeq (tFor (iEnum K (tCons (tVar 3) tNil)) (gTup K 2 (gCons (gName 4) (gCons (gName 5) gNil))) (tSeq (tIfS (tTest (tOp rLtI (tVar 2) (tCB (rLenQ K) (tCons (tFld K (tVar 5) "text") tNil)))) (tRet (tLst (tCons (tC (.int 0)) (tCons (tVar 4) (tCons (tVar 2) tNil))))) tNext) (tAug 2 (tCB (rLenQ K) (tCons (tFld K (tVar 5) "text") tNil)) (ipI fun i j => i - j)))) (tRet (tLst (tCons (tUn (rU fun i => .int (-i)) (tC (.int 2))) tNil)))))))
def t_answer_spread (K : PySem.W.Frag) (A : Ads) (E : XK) : TS :=
  (tSeq (tAsg (tOp (rIxL K) (tFld K (tVar 1) "numbers") (tC (.int 0))) (gName 2)) (tSeq (tAsg (tOp (rIxL K) (tFld K (tVar 1) "numbers") (tC (.int 1))) (gName 3)) (tSeq (tAsg (tDef (sp_all_given K A) E (tCons (tFld K (tVar 0) "program") (tCons (tFld K (tVar 0) "record") tNil))) (gName 4)) (tSeq (tIfS (tOr (tTest (tOp rLtI (tVar 2) (tC (.int 1)))) (tTest (tOp rGtI (tVar 2) (tCB (rLenQ K) (tCons (tFld K (tVar 0) "record") tNil))))) (tRet (tLst (tCons (tUn (rU fun i => .int (-i)) (tC (.int 6))) tNil))) tNext) (tSeq (tIfS (tOr (tTest (tOp rLtI (tVar 3) (tC (.int 0)))) (tTest (tOp rGeI (tVar 3) (tCB (rLenQ K) (tCons (tOp (rIxL K) (tFld K (tVar 0) "record") (tOp rSubI (tVar 2) (tC (.int 1)))) tNil))))) (tRet (tLst (tCons (tUn (rU fun i => .int (-i)) (tC (.int 2))) tNil))) tNext) (tSeq (tAsg (tLst tNil) (gName 5)) (tSeq (tFor (iList K (tVar 4)) (gName 6) (tDrop (tBM K "list" rExtend (tVar 5) (tCons (tLc (iRng1 (tCons (tCB (rLenQ K) (tCons (tFld K (tVar 6) "text") tNil)) tNil)) (gName 9) tYes (tMet A.c_Given "source" (sp_Given_source K A) E0 (tVar 6) (tCons (tVar 9) tNil)) [9]) tNil)))) (tRet (tOp L2.rCat (tLst (tCons (tC (.int 0)) tNil)) (tLc (iEnum K (tCons (tVar 5) tNil)) (gTup K 2 (gCons (gName 7) (gCons (gName 8) gNil))) (tTest (tOp (L2.rEqD K) (tVar 8) (tLst (tCons (tVar 2) (tCons (tVar 3) tNil))))) (tVar 7) [7, 8]))))))))))
def t_answer_could (K : PySem.W.Frag) (A : Ads) (E : XK) : TS :=
  (tRet (tOp L2.rCat (tLst (tCons (tC (.int 0)) tNil)) (tDef (sp_told_record K A) E0 (tCons (tDef (sp_edited_record K A) E (tCons (tVar 0) (tCons (tVar 1) tNil))) tNil))))
def t_answer_edit (K : PySem.W.Frag) (A : Ads) (E : XK) : TS :=
  (tSeq (tDrop (tDef (sp_change_record K A) E0 (tCons (tVar 0) (tCons (tDef (sp_edited_record K A) E (tCons (tVar 0) (tCons (tVar 1) tNil))) tNil)))) (tRet (tLst (tCons (tC (.int 0)) tNil))))
def t_answer_whole (K : PySem.W.Frag) (A : Ads) (E : XK) : TS :=
  (tSeq (tDrop (tDef (sp_need_text K A) E (tCons (tFld K (tVar 1) "row") tNil))) (tSeq (tAsg (tMk A.c_Shown (sp_Shown_init K A) E (tCons (tFld K (tVar 0) "program") (tCons (tFld K (tVar 0) "record") tNil))) (gName 2)) (tSeq (tDrop (tDef (sp_change_record K A) E0 (tCons (tVar 0) (tCons (tDef (sp_led_back K A) E (tCons (tVar 2) (tCons (tDef (sp_whole_edit K A) E0 (tCons (tVar 2) (tCons (tFld K (tVar 1) "row") tNil))) tNil))) tNil)))) (tRet (tLst (tCons (tC (.int 0)) tNil))))))
def t_answer_free (K : PySem.W.Frag) (A : Ads) (E : XK) : TS :=
  (tRet (tOp L2.rCat (tLst (tCons (tC (.int 0)) tNil)) (tDef (sp_free_bytes K A) E (tCons (tMk A.c_Shown (sp_Shown_init K A) E (tCons (tFld K (tVar 0) "program") (tCons (tFld K (tVar 0) "record") tNil))) (tCons (tOp (rIxL K) (tFld K (tVar 1) "numbers") (tC (.int 0))) tNil)))))
def t_answer_undo (K : PySem.W.Frag) (A : Ads) (E : XK) : TS :=
  (tSeq (tIfS (tTest (tOp rEq (tCB (rLenQ K) (tCons (tFld K (tVar 0) "past") tNil)) (tC (.int 0)))) (tRet (tLst (tCons (tUn (rU fun i => .int (-i)) (tC (.int 7))) tNil))) tNext) (tSeq (sFld K (tVar 0) (tBM0 K "list" rPop (tFld K (tVar 0) "past")) "record") (tRet (tLst (tCons (tCB (rLenQ K) (tCons (tFld K (tVar 0) "past") tNil)) tNil)))))
def t_answer_call (K : PySem.W.Frag) (A : Ads) (E : XK) : TS :=
  (fun D σ H => (fun WW => (tRet (tCallV (tb_Ans K A) (WE WW) (tDWr K (tC (.ref A.g_ANSWERERS)) (tFld K (tVar 1) "kind")) (tCons (tVar 0) (tCons (tVar 1) tNil))))) (wMix K (fun _ _ _ _ => False) D [⟨(.one (.ref A.c_NoOutput)), some 2, (fun ea ecls ed => (tRet (tLst (tCons (tC (.int 1)) (tCons (tErrF A.c_NoOutput "piece" ea ecls ed (tVar 2)) tNil)))))⟩, ⟨(.one (.ref A.c_NoSuchText)), none, (fun ea ecls ed => (tRet (tLst (tCons (tUn (rU fun i => .int (-i)) (tC (.int 1))) tNil))))⟩, ⟨(.one (.ref A.c_NoSuchPlace)), none, (fun ea ecls ed => (tRet (tLst (tCons (tUn (rU fun i => .int (-i)) (tC (.int 2))) tNil))))⟩, ⟨(.one (.ref A.c_NoPart)), none, (fun ea ecls ed => (tRet (tLst (tCons (tUn (rU fun i => .int (-i)) (tC (.int 3))) tNil))))⟩, ⟨(.one (.ref A.c_NotLedBack)), none, (fun ea ecls ed => (tRet (tLst (tCons (tUn (rU fun i => .int (-i)) (tC (.int 9))) tNil))))⟩]) D σ H)
def t_Desk_init (K : PySem.W.Frag) (A : Ads) (E : XK) : TS :=
  (tSeq (sFld K (tVar 0) (tLst tNil) "program") (tSeq (sFld K (tVar 0) (tLst (tCons (tLst tNil) tNil)) "record") (sFld K (tVar 0) (tLst tNil) "past")))
def t_answers (K : PySem.W.Frag) (A : Ads) (E : XK) : TS :=
  (tSeq (tAsg (tMake A.c_Desk (sp_Desk_init K A) [] E0 tNil) (gName 1)) (tSeq (tAsg (tLst tNil) (gName 2)) (tSeq (tFor (iList K (tDef (sp_split_calls K A) E0 (tCons (tVar 0) tNil))) (gName 3) (tSeq (tAsg (tDef (sp_answer_call K A) E0 (tCons (tVar 1) (tCons (tVar 3) tNil))) (gName 4)) (tSeq (tDrop (tBM K "list" rAppend (tVar 2) (tCons (tCB (rLenQ K) (tCons (tVar 4) tNil)) tNil))) (tDrop (tBM K "list" rExtend (tVar 2) (tCons (tVar 4) tNil)))))) (tRet (tVar 2)))))
end Oe
namespace Oe
open PySem PySem.Spec PyProof.Rows L2
section
variable {P : Program} {w : World} {K : PySem.W.Frag} {mg : Str → Option Value} {base : Heap} {A : Ads}
theorem ok_Reader_stands_within {f : Addr} {fd : FuncData} (F : Fun K "stands_within" "Reader.stands_within" s_Reader_stands_within f fd) (T : Fx K mg A) 
    (pure : ∀ vs H Q E, sp_Reader_stands_within K A vs H Q E → t_Reader_stands_within K A E { nx := fun _ H' => Q .non H', rt := Q } (start ["self", "low", "high"] vs) H) :
    FnOk P w K mg base CX0 1 f fd ["self", "low", "high"] (sp_Reader_stands_within K A) := by
  refine F.ok sc_Reader_stands_within (fun vs H Q E h => h.1) (fun cdv A' outer s H vs Q E hr h => ⟨t_Reader_stands_within K A E, ?_, pure vs H Q E h⟩)
  exact (pss_one (ps_ret (pe_and (pe_cmpR op_lt (pe_fld (pv 0) rfl) (pe_callB c_len (by rfl) T.b_len PySem.boot_len (pa_cons (pe_fld (pv 0) rfl) pa_nil)) (nomark _)) (pe_one (pe_chain op_le op_le (pv 1) (pe_ix ix_list (pe_fld (pv 0) rfl) (pe_fld (pv 0) rfl) (fun _ _ => rfl)) (pv 2))))))
theorem ok_Reader_stands {f : Addr} {fd : FuncData} (F : Fun K "stands" "Reader.stands" s_Reader_stands f fd) (T : Fx K mg A) (D_Reader_stands_within : MethOk P w K mg base CX0 1 A.c_Reader "stands_within" ["self", "low", "high"] (sp_Reader_stands_within K A))
    (pure : ∀ vs H Q E, sp_Reader_stands K A vs H Q E → t_Reader_stands K A E { nx := fun _ H' => Q .non H', rt := Q } (start ["self", "sign"] vs) H) :
    FnOk P w K mg base CX0 2 f fd ["self", "sign"] (sp_Reader_stands K A) := by
  refine F.ok sc_Reader_stands (fun vs H Q E h => h.1) (fun cdv A' outer s H vs Q E hr h => ⟨t_Reader_stands K A E, ?_, pure vs H Q E h⟩)
  exact (pss_one (ps_ret (pe_met D_Reader_stands_within (hr.mono (by decide)) pass0 (pv 0) (pa_cons (pe_callB c_ord (by rfl) T.b_ord (by decide +kernel) (pa_cons (pv 1) pa_nil)) (pa_cons (pe_callB c_ord (by rfl) T.b_ord (by decide +kernel) (pa_cons (pv 1) pa_nil)) pa_nil)))))
theorem ok_Reader_skip {f : Addr} {fd : FuncData} (F : Fun K "skip" "Reader.skip" s_Reader_skip f fd) (T : Fx K mg A) (D_Reader_stands : MethOk P w K mg base CX0 2 A.c_Reader "stands" ["self", "sign"] (sp_Reader_stands K A))
    (pure : ∀ vs H Q E, sp_Reader_skip K A vs H Q E → t_Reader_skip K A E { nx := fun _ H' => Q .non H', rt := Q } (start ["self", "sign"] vs) H) :
    FnOk P w K mg base CX0 3 f fd ["self", "sign"] (sp_Reader_skip K A) := by
  refine F.ok sc_Reader_skip (fun vs H Q E h => h.1) (fun cdv A' outer s H vs Q E hr h => ⟨t_Reader_skip K A E, ?_, pure vs H Q E h⟩)
  exact (pss_cons (ps_if (pt_not (pt_val (pe_met D_Reader_stands (hr.mono (by decide)) pass0 (pv 0) (pa_cons (pv 1) pa_nil)))) (pss_one (ps_ret pe_bl)) pss_nil) (pss_cons (ps_fldaug (pv 0) pe_int in_add) (pss_one (ps_ret pe_bl))))
theorem ok_Reader_take {f : Addr} {fd : FuncData} (F : Fun K "take" "Reader.take" s_Reader_take f fd) (T : Fx K mg A) (D_Reader_stands_within : MethOk P w K mg base CX0 1 A.c_Reader "stands_within" ["self", "low", "high"] (sp_Reader_stands_within K A)) (D_err_Fault : ErrOk P w K mg A.c_Fault "Fault" 2 PySem.OeX.fo_Fault)
    (pure : ∀ vs H Q E, sp_Reader_take K A vs H Q E → t_Reader_take K A E { nx := fun _ H' => Q .non H', rt := Q } (start ["self", "low", "high", "byte"] vs) H) :
    FnOk P w K mg base (L2.CX P w) 2 f fd ["self", "low", "high"] (sp_Reader_take K A) := by
  refine F.okX sc_Reader_take (fun vs H Q E h => h.1) (fun cdv A' outer s H vs Q E hr h => ⟨t_Reader_take K A E, ?_, pure vs H Q E h⟩)
  exact (pss_cons (ps_if (pt_not (pt_val (pe_met D_Reader_stands_within (hr.mono (by decide)) pass0 (pv 0) (pa_cons (pv 1) (pa_cons (pv 2) pa_nil))))) (pss_one (ps_err D_err_Fault rfl hr (takes_of rfl rfl rfl rfl) (pa_cons (pe_globI T.m_MISPLACED) (pa_cons (pe_fld (pv 0) rfl) pa_nil)))) pss_nil) (pss_cons (ps_set (i := 3) sc_Reader_take.nd rfl (Or.inl rfl) (pe_ix ix_list (pe_fld (pv 0) rfl) (pe_fld (pv 0) rfl) (fun _ _ => rfl))) (pss_cons (ps_fldaug (pv 0) pe_int in_add) (pss_one (ps_ret (pv 3))))))
theorem ok_Reader_need {f : Addr} {fd : FuncData} (F : Fun K "need" "Reader.need" s_Reader_need f fd) (T : Fx K mg A) (D_Reader_take : MethOk P w K mg base (L2.CX P w) 2 A.c_Reader "take" ["self", "low", "high"] (sp_Reader_take K A))
    (pure : ∀ vs H Q E, sp_Reader_need K A vs H Q E → t_Reader_need K A E { nx := fun _ H' => Q .non H', rt := Q } (start ["self", "sign"] vs) H) :
    FnOk P w K mg base (L2.CX P w) 3 f fd ["self", "sign"] (sp_Reader_need K A) := by
  refine F.okX sc_Reader_need (fun vs H Q E h => h.1) (fun cdv A' outer s H vs Q E hr h => ⟨t_Reader_need K A E, ?_, pure vs H Q E h⟩)
  exact (pss_one (ps_expr (pe_met D_Reader_take (hr.mono (by decide)) (passes_call (takes_of rfl rfl rfl rfl) (fun _ _ _ _ h => h)) (pv 0) (pa_cons (pe_callB c_ord (by rfl) T.b_ord (by decide +kernel) (pa_cons (pv 1) pa_nil)) (pa_cons (pe_callB c_ord (by rfl) T.b_ord (by decide +kernel) (pa_cons (pv 1) pa_nil)) pa_nil)))))
theorem ok_read_constant {f : Addr} {fd : FuncData} (F : Fun K "read_constant" "read_constant" s_read_constant f fd) (T : Fx K mg A) (D_Reader_need : MethOk P w K mg base (L2.CX P w) 3 A.c_Reader "need" ["self", "sign"] (sp_Reader_need K A)) (D_Reader_take : MethOk P w K mg base (L2.CX P w) 2 A.c_Reader "take" ["self", "low", "high"] (sp_Reader_take K A)) (D_Reader_skip : MethOk P w K mg base CX0 3 A.c_Reader "skip" ["self", "sign"] (sp_Reader_skip K A)) (D_err_Fault : ErrOk P w K mg A.c_Fault "Fault" 2 PySem.OeX.fo_Fault) (D_new_Constant : MakeOk P w K mg base 1 A.c_Constant "Constant" 1 fo_Constant)
    (pure : ∀ vs H Q E, sp_read_constant K A vs H Q E → t_read_constant K A E { nx := fun _ H' => Q .non H', rt := Q } (start ["reader", "start", "text", "byte"] vs) H) :
    FnOk P w K mg base (L2.CX P w) 4 f fd ["reader"] (sp_read_constant K A) := by
  refine F.okX sc_read_constant (fun vs H Q E h => h.1) (fun cdv A' outer s H vs Q E hr h => ⟨t_read_constant K A E, ?_, pure vs H Q E h⟩)
  exact (pss_cons (ps_set (i := 1) sc_read_constant.nd rfl (Or.inl rfl) (pe_fld (pv 0) rfl)) (pss_cons (ps_expr (pe_met D_Reader_need (hr.mono (by decide)) (passes_call (takes_of rfl rfl rfl rfl) (fun _ _ _ _ h => h)) (pv 0) (pa_cons pe_str pa_nil))) (pss_cons (ps_set (i := 2) sc_read_constant.nd rfl (Or.inl rfl) (pe_lst pa_nil)) (pss_cons (ps_while (passes_of rfl) (pt_val pe_bl) (pss_cons (ps_set (i := 3) sc_read_constant.nd rfl (Or.inl rfl) (pe_met D_Reader_take (hr.mono (by decide)) (passes_call (takes_of rfl rfl rfl rfl) (fun _ _ _ _ h => h)) (pv 0) (pa_cons pe_int (pa_cons pe_int pa_nil)))) (pss_cons (ps_if (PW.pt (pw_and (pt_cmpR op_eq (pv 3) (pe_callB c_ord (by rfl) T.b_ord (by decide +kernel) (pa_cons pe_str pa_nil)) (nomark _)) (pw_and1 (pt_not (pt_val (pe_met D_Reader_skip (hr.mono (by decide)) pass0 (pv 0) (pa_cons pe_str pa_nil))))))) (pss_one ps_break) pss_nil) (pss_one (ps_expr (pe_bm PySem.F.plainAttrs_list PySem.F.slot_list_append PySem.F.type_list_append mt_append (pv 2) (pa_cons (pv 3) pa_nil))))))) (pss_cons (ps_if (PW.pt (pw_or (pt_cmpR op_eq (pe_callB c_len (by rfl) T.b_len PySem.boot_len (pa_cons (pv 2) pa_nil)) pe_int (nomark _)) (pw_or1 (pt_cmpR op_gt (pe_callB c_len (by rfl) T.b_len PySem.boot_len (pa_cons (pv 2) pa_nil)) (pe_globI T.m_LONGEST_CONSTANT) (nomark _))))) (pss_one (ps_err D_err_Fault rfl hr (takes_of rfl rfl rfl rfl) (pa_cons (pe_globI T.m_CONSTANT_LENGTH) (pa_cons (pv 1) pa_nil)))) pss_nil) (pss_one (ps_ret (pe_new D_new_Constant (hr.mono (by decide)) (pa_cons (pv 2) pa_nil)))))))))
theorem ok_read_digit {f : Addr} {fd : FuncData} (F : Fun K "read_digit" "read_digit" s_read_digit f fd) (T : Fx K mg A) (D_Reader_take : MethOk P w K mg base (L2.CX P w) 2 A.c_Reader "take" ["self", "low", "high"] (sp_Reader_take K A))
    (pure : ∀ vs H Q E, sp_read_digit K A vs H Q E → t_read_digit K A E { nx := fun _ H' => Q .non H', rt := Q } (start ["reader"] vs) H) :
    FnOk P w K mg base (L2.CX P w) 3 f fd ["reader"] (sp_read_digit K A) := by
  refine F.okX sc_read_digit (fun vs H Q E h => h.1) (fun cdv A' outer s H vs Q E hr h => ⟨t_read_digit K A E, ?_, pure vs H Q E h⟩)
  exact (pss_one (ps_ret (pe_op op_sub (pe_met D_Reader_take (hr.mono (by decide)) (passes_call (takes_of rfl rfl rfl rfl) (fun _ _ _ _ h => h)) (pv 0) (pa_cons (pe_callB c_ord (by rfl) T.b_ord (by decide +kernel) (pa_cons pe_str pa_nil)) (pa_cons (pe_callB c_ord (by rfl) T.b_ord (by decide +kernel) (pa_cons pe_str pa_nil)) pa_nil))) (pe_callB c_ord (by rfl) T.b_ord (by decide +kernel) (pa_cons pe_str pa_nil)))))
theorem ok_read_number {f : Addr} {fd : FuncData} (F : Fun K "read_number" "read_number" s_read_number f fd) (T : Fx K mg A) (D_read_digit : DefOk P w K mg base (L2.CX P w) 3 "read_digit" ["reader"] (sp_read_digit K A)) (D_Reader_stands_within : MethOk P w K mg base CX0 1 A.c_Reader "stands_within" ["self", "low", "high"] (sp_Reader_stands_within K A)) (D_err_Fault : ErrOk P w K mg A.c_Fault "Fault" 2 PySem.OeX.fo_Fault)
    (pure : ∀ vs H Q E, sp_read_number K A vs H Q E → t_read_number K A E { nx := fun _ H' => Q .non H', rt := Q } (start ["reader", "low", "high", "start", "digits", "number", "digit"] vs) H) :
    FnOk P w K mg base (L2.CX P w) 4 f fd ["reader", "low", "high"] (sp_read_number K A) := by
  refine F.okX sc_read_number (fun vs H Q E h => h.1) (fun cdv A' outer s H vs Q E hr h => ⟨t_read_number K A E, ?_, pure vs H Q E h⟩)
  exact (pss_cons (ps_set (i := 3) sc_read_number.nd rfl (Or.inl rfl) (pe_fld (pv 0) rfl)) (pss_cons (ps_set (i := 4) sc_read_number.nd rfl (Or.inl rfl) (pe_lst (pa_cons (pe_def D_read_digit (hr.mono (by decide)) (passes_call (takes_of rfl rfl rfl rfl) (fun _ _ _ _ h => h)) (pa_cons (pv 0) pa_nil)) pa_nil))) (pss_cons (ps_while (passes_of rfl) (pt_val (pe_met D_Reader_stands_within (hr.mono (by decide)) pass0 (pv 0) (pa_cons (pe_callB c_ord (by rfl) T.b_ord (by decide +kernel) (pa_cons pe_str pa_nil)) (pa_cons (pe_callB c_ord (by rfl) T.b_ord (by decide +kernel) (pa_cons pe_str pa_nil)) pa_nil)))) (pss_one (ps_expr (pe_bm PySem.F.plainAttrs_list PySem.F.slot_list_append PySem.F.type_list_append mt_append (pv 4) (pa_cons (pe_def D_read_digit (hr.mono (by decide)) (passes_call (takes_of rfl rfl rfl rfl) (fun _ _ _ _ h => h)) (pa_cons (pv 0) pa_nil)) pa_nil))))) (pss_cons (ps_if (PW.pt (pw_or (pt_cmpR op_gt (pe_callB c_len (by rfl) T.b_len PySem.boot_len (pa_cons (pv 4) pa_nil)) pe_int (nomark _)) (pw_or1 (PW.pt (pw_and (pt_cmpR op_eq (pe_callB c_len (by rfl) T.b_len PySem.boot_len (pa_cons (pv 4) pa_nil)) pe_int (nomark _)) (pw_and1 (pt_cmpR op_eq (pe_ix ix_list (pv 4) pe_int (fun _ _ => rfl)) pe_int (nomark _)))))))) (pss_one (ps_err D_err_Fault rfl hr (takes_of rfl rfl rfl rfl) (pa_cons (pe_globI T.m_NUMBER) (pa_cons (pv 3) pa_nil)))) pss_nil) (pss_cons (ps_set (i := 5) sc_read_number.nd rfl (Or.inl rfl) pe_int) (pss_cons (ps_for (passes_of rfl) rfl (pi_list (pv 4)) (pg_name (i := 6) sc_read_number.nd rfl (Or.inl rfl)) (pss_one (ps_set (i := 5) sc_read_number.nd rfl (Or.inl rfl) (pe_op op_add (pe_op op_mul (pv 5) pe_int) (pv 6))))) (pss_cons (ps_if (PW.pt (pw_or (pt_cmpR op_lt (pv 5) (pv 1) (nomark _)) (pw_or1 (pt_cmpR op_gt (pv 5) (pv 2) (nomark _))))) (pss_one (ps_err D_err_Fault rfl hr (takes_of rfl rfl rfl rfl) (pa_cons (pe_globI T.m_NUMBER) (pa_cons (pv 3) pa_nil)))) pss_nil) (pss_one (ps_ret (pv 5))))))))))
theorem ok_in_spans {f : Addr} {fd : FuncData} (F : Fun K "in_spans" "in_spans" s_in_spans f fd) (T : Fx K mg A) 
    (pure : ∀ vs H Q E, sp_in_spans K A vs H Q E → t_in_spans K A E { nx := fun _ H' => Q .non H', rt := Q } (start ["byte", "spans", "low", "high"] vs) H) :
    FnOk P w K mg base CX0 1 f fd ["byte", "spans"] (sp_in_spans K A) := by
  refine F.ok sc_in_spans (fun vs H Q E h => h.1) (fun cdv A' outer s H vs Q E hr h => ⟨t_in_spans K A E, ?_, pure vs H Q E h⟩)
  exact (pss_cons (ps_for PassesOwn.never rfl (pi_list (pv 1)) (pg_tup (by rfl) (pgs_cons (pg_name (i := 2) sc_in_spans.nd rfl (Or.inl rfl)) (pgs_cons (pg_name (i := 3) sc_in_spans.nd rfl (Or.inl rfl)) pgs_nil))) (pss_one (ps_if (pt_chain op_le op_le (pv 2) (pv 0) (pv 3)) (pss_one (ps_ret pe_bl)) pss_nil))) (pss_one (ps_ret pe_bl)))
theorem ok_is_letter_or_digit {f : Addr} {fd : FuncData} (F : Fun K "is_letter_or_digit" "is_letter_or_digit" s_is_letter_or_digit f fd) (T : Fx K mg A) (D_in_spans : DefOk P w K mg base CX0 1 "in_spans" ["byte", "spans"] (sp_in_spans K A))
    (pure : ∀ vs H Q E, sp_is_letter_or_digit K A vs H Q E → t_is_letter_or_digit K A E { nx := fun _ H' => Q .non H', rt := Q } (start ["byte"] vs) H) :
    FnOk P w K mg base CX0 2 f fd ["byte"] (sp_is_letter_or_digit K A) := by
  refine F.ok sc_is_letter_or_digit (fun vs H Q E h => h.1) (fun cdv A' outer s H vs Q E hr h => ⟨t_is_letter_or_digit K A E, ?_, pure vs H Q E h⟩)
  exact (pss_one (ps_ret (pe_def D_in_spans (hr.mono (by decide)) pass0 (pa_cons (pv 0) (pa_cons (pe_callTy c_list (by rfl) T.b_list (by decide +kernel) (pa_cons (pe_globR T.m_LETTERS_AND_DIGITS) pa_nil)) pa_nil)))))
theorem ok_read_quoted {f : Addr} {fd : FuncData} (F : Fun K "read_quoted" "read_quoted" s_read_quoted f fd) (T : Fx K mg A) (D_Reader_take : MethOk P w K mg base (L2.CX P w) 2 A.c_Reader "take" ["self", "low", "high"] (sp_Reader_take K A)) (D_is_letter_or_digit : DefOk P w K mg base CX0 2 "is_letter_or_digit" ["byte"] (sp_is_letter_or_digit K A)) (D_err_Fault : ErrOk P w K mg A.c_Fault "Fault" 2 PySem.OeX.fo_Fault)
    (pure : ∀ vs H Q E, sp_read_quoted K A vs H Q E → t_read_quoted K A E { nx := fun _ H' => Q .non H', rt := Q } (start ["reader", "place", "byte"] vs) H) :
    FnOk P w K mg base (L2.CX P w) 3 f fd ["reader"] (sp_read_quoted K A) := by
  refine F.okX sc_read_quoted (fun vs H Q E h => h.1) (fun cdv A' outer s H vs Q E hr h => ⟨t_read_quoted K A E, ?_, pure vs H Q E h⟩)
  exact (pss_cons (ps_set (i := 1) sc_read_quoted.nd rfl (Or.inl rfl) (pe_fld (pv 0) rfl)) (pss_cons (ps_set (i := 2) sc_read_quoted.nd rfl (Or.inl rfl) (pe_met D_Reader_take (hr.mono (by decide)) (passes_call (takes_of rfl rfl rfl rfl) (fun _ _ _ _ h => h)) (pv 0) (pa_cons pe_int (pa_cons pe_int pa_nil)))) (pss_cons (ps_if (pt_val (pe_def D_is_letter_or_digit (hr.mono (by decide)) pass0 (pa_cons (pv 2) pa_nil))) (pss_one (ps_err D_err_Fault rfl hr (takes_of rfl rfl rfl rfl) (pa_cons (pe_globI T.m_MISPLACED) (pa_cons (pv 1) pa_nil)))) pss_nil) (pss_one (ps_ret (pe_lst (pa_cons (pe_tup (pa_cons (pv 2) (pa_cons (pv 2) pa_nil))) pa_nil)))))))
theorem ok_read_class {f : Addr} {fd : FuncData} (F : Fun K "read_class" "read_class" s_read_class f fd) (T : Fx K mg A) (D_Reader_skip : MethOk P w K mg base CX0 3 A.c_Reader "skip" ["self", "sign"] (sp_Reader_skip K A)) (D_read_quoted : DefOk P w K mg base (L2.CX P w) 3 "read_quoted" ["reader"] (sp_read_quoted K A)) (D_err_Fault : ErrOk P w K mg A.c_Fault "Fault" 2 PySem.OeX.fo_Fault)
    (pure : ∀ vs H Q E, sp_read_class K A vs H Q E → t_read_class K A E { nx := fun _ H' => Q .non H', rt := Q } (start ["reader", "sign", "spans"] vs) H) :
    FnOk P w K mg base (L2.CX P w) 4 f fd ["reader"] (sp_read_class K A) := by
  refine F.okX sc_read_class (fun vs H Q E h => h.1) (fun cdv A' outer s H vs Q E hr h => ⟨t_read_class K A E, ?_, pure vs H Q E h⟩)
  exact (pss_cons (ps_if (pt_val (pe_met D_Reader_skip (hr.mono (by decide)) pass0 (pv 0) (pa_cons pe_str pa_nil))) (pss_one (ps_ret (pe_def D_read_quoted (hr.mono (by decide)) (passes_call (takes_of rfl rfl rfl rfl) (fun _ _ _ _ h => h)) (pa_cons (pv 0) pa_nil)))) pss_nil) (pss_cons (ps_for (passes_of rfl) rfl (pi_tup (pe_globR T.m_CLASSES)) (pg_tup (by rfl) (pgs_cons (pg_name (i := 1) sc_read_class.nd rfl (Or.inl rfl)) (pgs_cons (pg_name (i := 2) sc_read_class.nd rfl (Or.inl rfl)) pgs_nil))) (pss_one (ps_if (pt_val (pe_met D_Reader_skip (hr.mono (by decide)) pass0 (pv 0) (pa_cons (pv 1) pa_nil))) (pss_one (ps_ret (pe_callTy c_list (by rfl) T.b_list (by decide +kernel) (pa_cons (pv 2) pa_nil)))) pss_nil))) (pss_one (ps_err D_err_Fault rfl hr (takes_of rfl rfl rfl rfl) (pa_cons (pe_globI T.m_MISPLACED) (pa_cons (pe_fld (pv 0) rfl) pa_nil))))))
theorem ok_read_border {f : Addr} {fd : FuncData} (F : Fun K "read_border" "read_border" s_read_border f fd) (T : Fx K mg A) (D_read_class : DefOk P w K mg base (L2.CX P w) 4 "read_class" ["reader"] (sp_read_class K A)) (D_Reader_need : MethOk P w K mg base (L2.CX P w) 3 A.c_Reader "need" ["self", "sign"] (sp_Reader_need K A)) (D_err_Fault : ErrOk P w K mg A.c_Fault "Fault" 2 PySem.OeX.fo_Fault) (D_Reader_skip : MethOk P w K mg base CX0 3 A.c_Reader "skip" ["self", "sign"] (sp_Reader_skip K A)) (D_read_number : DefOk P w K mg base (L2.CX P w) 4 "read_number" ["reader", "low", "high"] (sp_read_number K A)) (D_new_Border : MakeOk P w K mg base 1 A.c_Border "Border" 4 fo_Border)
    (pure : ∀ vs H Q E, sp_read_border K A vs H Q E → t_read_border K A E { nx := fun _ H' => Q .non H', rt := Q } (start ["reader", "start", "left", "right"] vs) H) :
    FnOk P w K mg base (L2.CX P w) 5 f fd ["reader"] (sp_read_border K A) := by
  refine F.okX sc_read_border (fun vs H Q E h => h.1) (fun cdv A' outer s H vs Q E hr h => ⟨t_read_border K A E, ?_, pure vs H Q E h⟩)
  exact (pss_cons (ps_set (i := 1) sc_read_border.nd rfl (Or.inl rfl) (pe_fld (pv 0) rfl)) (pss_cons (ps_set (i := 2) sc_read_border.nd rfl (Or.inl rfl) (pe_def D_read_class (hr.mono (by decide)) (passes_call (takes_of rfl rfl rfl rfl) (fun _ _ _ _ h => h)) (pa_cons (pv 0) pa_nil))) (pss_cons (ps_expr (pe_met D_Reader_need (hr.mono (by decide)) (passes_call (takes_of rfl rfl rfl rfl) (fun _ _ _ _ h => h)) (pv 0) (pa_cons pe_str pa_nil))) (pss_cons (ps_set (i := 3) sc_read_border.nd rfl (Or.inl rfl) (pe_def D_read_class (hr.mono (by decide)) (passes_call (takes_of rfl rfl rfl rfl) (fun _ _ _ _ h => h)) (pa_cons (pv 0) pa_nil))) (pss_cons (ps_if (PW.pt (pw_and (pt_not (pt_tru (pv 2))) (pw_and1 (pt_not (pt_tru (pv 3)))))) (pss_one (ps_err D_err_Fault rfl hr (takes_of rfl rfl rfl rfl) (pa_cons (pe_globI T.m_TWO_EMPTY_CLASSES) (pa_cons (pv 1) pa_nil)))) pss_nil) (pss_cons (ps_if (pt_val (pe_met D_Reader_skip (hr.mono (by decide)) pass0 (pv 0) (pa_cons pe_str pa_nil))) (pss_one (ps_ret (pe_new D_new_Border (hr.mono (by decide)) (pa_cons (pv 2) (pa_cons (pv 3) (pa_cons (pe_def D_read_number (hr.mono (by decide)) (passes_call (takes_of rfl rfl rfl rfl) (fun _ _ _ _ h => h)) (pa_cons (pv 0) (pa_cons pe_int (pa_cons pe_int pa_nil)))) (pa_cons pe_bl pa_nil))))))) pss_nil) (pss_cons (ps_expr (pe_met D_Reader_need (hr.mono (by decide)) (passes_call (takes_of rfl rfl rfl rfl) (fun _ _ _ _ h => h)) (pv 0) (pa_cons pe_str pa_nil))) (pss_one (ps_ret (pe_new D_new_Border (hr.mono (by decide)) (pa_cons (pv 2) (pa_cons (pv 3) (pa_cons (pe_def D_read_number (hr.mono (by decide)) (passes_call (takes_of rfl rfl rfl rfl) (fun _ _ _ _ h => h)) (pa_cons (pv 0) (pa_cons pe_int (pa_cons pe_int pa_nil)))) (pa_cons pe_bl pa_nil))))))))))))))
theorem ok_read_position {f : Addr} {fd : FuncData} (F : Fun K "read_position" "read_position" s_read_position f fd) (T : Fx K mg A) (D_Reader_skip : MethOk P w K mg base CX0 3 A.c_Reader "skip" ["self", "sign"] (sp_Reader_skip K A)) (D_read_number : DefOk P w K mg base (L2.CX P w) 4 "read_number" ["reader", "low", "high"] (sp_read_number K A)) (D_new_FromStart : MakeOk P w K mg base 1 A.c_FromStart "FromStart" 1 fo_FromStart) (D_new_FromEnd : MakeOk P w K mg base 1 A.c_FromEnd "FromEnd" 1 fo_FromEnd) (D_read_border : DefOk P w K mg base (L2.CX P w) 5 "read_border" ["reader"] (sp_read_border K A))
    (pure : ∀ vs H Q E, sp_read_position K A vs H Q E → t_read_position K A E { nx := fun _ H' => Q .non H', rt := Q } (start ["reader"] vs) H) :
    FnOk P w K mg base (L2.CX P w) 6 f fd ["reader"] (sp_read_position K A) := by
  refine F.okX sc_read_position (fun vs H Q E h => h.1) (fun cdv A' outer s H vs Q E hr h => ⟨t_read_position K A E, ?_, pure vs H Q E h⟩)
  exact (pss_cons (ps_if (pt_val (pe_met D_Reader_skip (hr.mono (by decide)) pass0 (pv 0) (pa_cons pe_str pa_nil))) (pss_one (ps_ret (pe_new D_new_FromStart (hr.mono (by decide)) (pa_cons (pe_def D_read_number (hr.mono (by decide)) (passes_call (takes_of rfl rfl rfl rfl) (fun _ _ _ _ h => h)) (pa_cons (pv 0) (pa_cons pe_int (pa_cons pe_int pa_nil)))) pa_nil)))) pss_nil) (pss_cons (ps_if (pt_val (pe_met D_Reader_skip (hr.mono (by decide)) pass0 (pv 0) (pa_cons pe_str pa_nil))) (pss_one (ps_ret (pe_new D_new_FromEnd (hr.mono (by decide)) (pa_cons (pe_def D_read_number (hr.mono (by decide)) (passes_call (takes_of rfl rfl rfl rfl) (fun _ _ _ _ h => h)) (pa_cons (pv 0) (pa_cons pe_int (pa_cons pe_int pa_nil)))) pa_nil)))) pss_nil) (pss_one (ps_ret (pe_def D_read_border (hr.mono (by decide)) (passes_call (takes_of rfl rfl rfl rfl) (fun _ _ _ _ h => h)) (pa_cons (pv 0) pa_nil))))))
theorem ok_read_turn {f : Addr} {fd : FuncData} (F : Fun K "read_turn" "read_turn" s_read_turn f fd) (T : Fx K mg A) (D_Reader_skip : MethOk P w K mg base CX0 3 A.c_Reader "skip" ["self", "sign"] (sp_Reader_skip K A))
    (pure : ∀ vs H Q E, sp_read_turn K A vs H Q E → t_read_turn K A E { nx := fun _ H' => Q .non H', rt := Q } (start ["reader", "sign"] vs) H) :
    FnOk P w K mg base CX0 4 f fd ["reader"] (sp_read_turn K A) := by
  refine F.ok sc_read_turn (fun vs H Q E h => h.1) (fun cdv A' outer s H vs Q E hr h => ⟨t_read_turn K A E, ?_, pure vs H Q E h⟩)
  exact (pss_cons (ps_for PassesOwn.never rfl (pi_tup (pe_tup (pa_cons pe_str (pa_cons pe_str (pa_cons pe_str pa_nil))))) (pg_name (i := 1) sc_read_turn.nd rfl (Or.inl rfl)) (pss_one (ps_if (pt_val (pe_met D_Reader_skip (hr.mono (by decide)) pass0 (pv 0) (pa_cons (pv 1) pa_nil))) (pss_one (ps_ret (pv 1))) pss_nil))) (pss_one (ps_ret pe_str)))
theorem ok_read_part {f : Addr} {fd : FuncData} (F : Fun K "read_part" "read_part" s_read_part f fd) (T : Fx K mg A) (D_Reader_take : MethOk P w K mg base (L2.CX P w) 2 A.c_Reader "take" ["self", "low", "high"] (sp_Reader_take K A)) (D_Reader_need : MethOk P w K mg base (L2.CX P w) 3 A.c_Reader "need" ["self", "sign"] (sp_Reader_need K A)) (D_read_position : DefOk P w K mg base (L2.CX P w) 6 "read_position" ["reader"] (sp_read_position K A)) (D_read_turn : DefOk P w K mg base CX0 4 "read_turn" ["reader"] (sp_read_turn K A)) (D_new_Part : MakeOk P w K mg base 1 A.c_Part "Part" 4 fo_Part)
    (pure : ∀ vs H Q E, sp_read_part K A vs H Q E → t_read_part K A E { nx := fun _ H' => Q .non H', rt := Q } (start ["reader", "field", "first", "last"] vs) H) :
    FnOk P w K mg base (L2.CX P w) 7 f fd ["reader"] (sp_read_part K A) := by
  refine F.okX sc_read_part (fun vs H Q E h => h.1) (fun cdv A' outer s H vs Q E hr h => ⟨t_read_part K A E, ?_, pure vs H Q E h⟩)
  exact (pss_cons (ps_set (i := 1) sc_read_part.nd rfl (Or.inl rfl) (pe_op op_sub (pe_met D_Reader_take (hr.mono (by decide)) (passes_call (takes_of rfl rfl rfl rfl) (fun _ _ _ _ h => h)) (pv 0) (pa_cons (pe_callB c_ord (by rfl) T.b_ord (by decide +kernel) (pa_cons pe_str pa_nil)) (pa_cons (pe_callB c_ord (by rfl) T.b_ord (by decide +kernel) (pa_cons pe_str pa_nil)) pa_nil))) (pe_callB c_ord (by rfl) T.b_ord (by decide +kernel) (pa_cons pe_str pa_nil)))) (pss_cons (ps_expr (pe_met D_Reader_need (hr.mono (by decide)) (passes_call (takes_of rfl rfl rfl rfl) (fun _ _ _ _ h => h)) (pv 0) (pa_cons pe_str pa_nil))) (pss_cons (ps_set (i := 2) sc_read_part.nd rfl (Or.inl rfl) (pe_def D_read_position (hr.mono (by decide)) (passes_call (takes_of rfl rfl rfl rfl) (fun _ _ _ _ h => h)) (pa_cons (pv 0) pa_nil))) (pss_cons (ps_expr (pe_met D_Reader_need (hr.mono (by decide)) (passes_call (takes_of rfl rfl rfl rfl) (fun _ _ _ _ h => h)) (pv 0) (pa_cons pe_str pa_nil))) (pss_cons (ps_set (i := 3) sc_read_part.nd rfl (Or.inl rfl) (pe_def D_read_position (hr.mono (by decide)) (passes_call (takes_of rfl rfl rfl rfl) (fun _ _ _ _ h => h)) (pa_cons (pv 0) pa_nil))) (pss_cons (ps_expr (pe_met D_Reader_need (hr.mono (by decide)) (passes_call (takes_of rfl rfl rfl rfl) (fun _ _ _ _ h => h)) (pv 0) (pa_cons pe_str pa_nil))) (pss_one (ps_ret (pe_new D_new_Part (hr.mono (by decide)) (pa_cons (pv 1) (pa_cons (pv 2) (pa_cons (pv 3) (pa_cons (pe_def D_read_turn (hr.mono (by decide)) pass0 (pa_cons (pv 0) pa_nil)) pa_nil)))))))))))))
theorem ok_read_piece {f : Addr} {fd : FuncData} (F : Fun K "read_piece" "read_piece" s_read_piece f fd) (T : Fx K mg A) (D_Reader_stands : MethOk P w K mg base CX0 2 A.c_Reader "stands" ["self", "sign"] (sp_Reader_stands K A)) (D_read_constant : DefOk P w K mg base (L2.CX P w) 4 "read_constant" ["reader"] (sp_read_constant K A)) (D_read_part : DefOk P w K mg base (L2.CX P w) 7 "read_part" ["reader"] (sp_read_part K A))
    (pure : ∀ vs H Q E, sp_read_piece K A vs H Q E → t_read_piece K A E { nx := fun _ H' => Q .non H', rt := Q } (start ["reader"] vs) H) :
    FnOk P w K mg base (L2.CX P w) 8 f fd ["reader"] (sp_read_piece K A) := by
  refine F.okX sc_read_piece (fun vs H Q E h => h.1) (fun cdv A' outer s H vs Q E hr h => ⟨t_read_piece K A E, ?_, pure vs H Q E h⟩)
  exact (pss_cons (ps_if (pt_val (pe_met D_Reader_stands (hr.mono (by decide)) pass0 (pv 0) (pa_cons pe_str pa_nil))) (pss_one (ps_ret (pe_def D_read_constant (hr.mono (by decide)) (passes_call (takes_of rfl rfl rfl rfl) (fun _ _ _ _ h => h)) (pa_cons (pv 0) pa_nil)))) pss_nil) (pss_one (ps_ret (pe_def D_read_part (hr.mono (by decide)) (passes_call (takes_of rfl rfl rfl rfl) (fun _ _ _ _ h => h)) (pa_cons (pv 0) pa_nil)))))
theorem ok_Reader_need_end {f : Addr} {fd : FuncData} (F : Fun K "need_end" "Reader.need_end" s_Reader_need_end f fd) (T : Fx K mg A) (D_err_Fault : ErrOk P w K mg A.c_Fault "Fault" 2 PySem.OeX.fo_Fault)
    (pure : ∀ vs H Q E, sp_Reader_need_end K A vs H Q E → t_Reader_need_end K A E { nx := fun _ H' => Q .non H', rt := Q } (start ["self"] vs) H) :
    FnOk P w K mg base (L2.CX P w) 2 f fd ["self"] (sp_Reader_need_end K A) := by
  refine F.okX sc_Reader_need_end (fun vs H Q E h => h.1) (fun cdv A' outer s H vs Q E hr h => ⟨t_Reader_need_end K A E, ?_, pure vs H Q E h⟩)
  exact (pss_one (ps_if (pt_cmpR op_lt (pe_fld (pv 0) rfl) (pe_callB c_len (by rfl) T.b_len PySem.boot_len (pa_cons (pe_fld (pv 0) rfl) pa_nil)) (nomark _)) (pss_one (ps_err D_err_Fault rfl hr (takes_of rfl rfl rfl rfl) (pa_cons (pe_globI T.m_MISPLACED) (pa_cons (pe_fld (pv 0) rfl) pa_nil)))) pss_nil))
theorem ok_read_program {f : Addr} {fd : FuncData} (F : Fun K "read_program" "read_program" s_read_program f fd) (T : Fx K mg A) (D_new_Reader : MakeOk P w K mg base 1 A.c_Reader "Reader" 1 fo_Reader) (D_Reader_skip : MethOk P w K mg base CX0 3 A.c_Reader "skip" ["self", "sign"] (sp_Reader_skip K A)) (D_read_piece : DefOk P w K mg base (L2.CX P w) 8 "read_piece" ["reader"] (sp_read_piece K A)) (D_err_Fault : ErrOk P w K mg A.c_Fault "Fault" 2 PySem.OeX.fo_Fault) (D_Reader_need_end : MethOk P w K mg base (L2.CX P w) 2 A.c_Reader "need_end" ["self"] (sp_Reader_need_end K A))
    (pure : ∀ vs H Q E, sp_read_program K A vs H Q E → t_read_program K A E { nx := fun _ H' => Q .non H', rt := Q } (start ["text", "reader", "pieces"] vs) H) :
    FnOk P w K mg base (L2.CX P w) 9 f fd ["text"] (sp_read_program K A) := by
  refine F.okX sc_read_program (fun vs H Q E h => h.1) (fun cdv A' outer s H vs Q E hr h => ⟨t_read_program K A E, ?_, pure vs H Q E h⟩)
  exact (pss_cons (ps_set (i := 1) sc_read_program.nd rfl (Or.inl rfl) (pe_new D_new_Reader (hr.mono (by decide)) (pa_cons (pv 0) pa_nil))) (pss_cons (ps_set (i := 2) sc_read_program.nd rfl (Or.inl rfl) (pe_lst pa_nil)) (pss_cons (ps_if (pt_not (pt_val (pe_met D_Reader_skip (hr.mono (by decide)) pass0 (pv 1) (pa_cons pe_str pa_nil)))) (pss_cons (ps_expr (pe_bm PySem.F.plainAttrs_list PySem.F.slot_list_append PySem.F.type_list_append mt_append (pv 2) (pa_cons (pe_def D_read_piece (hr.mono (by decide)) (passes_call (takes_of rfl rfl rfl rfl) (fun _ _ _ _ h => h)) (pa_cons (pv 1) pa_nil)) pa_nil))) (pss_one (ps_while (passes_of rfl) (pt_val (pe_met D_Reader_skip (hr.mono (by decide)) pass0 (pv 1) (pa_cons pe_str pa_nil))) (pss_cons (ps_if (pt_cmpR op_eq (pe_callB c_len (by rfl) T.b_len PySem.boot_len (pa_cons (pv 2) pa_nil)) (pe_globI T.m_MOST_PIECES) (nomark _)) (pss_one (ps_err D_err_Fault rfl hr (takes_of rfl rfl rfl rfl) (pa_cons (pe_globI T.m_PIECE_TOO_MANY) (pa_cons (pe_fld (pv 1) rfl) pa_nil)))) pss_nil) (pss_one (ps_expr (pe_bm PySem.F.plainAttrs_list PySem.F.slot_list_append PySem.F.type_list_append mt_append (pv 2) (pa_cons (pe_def D_read_piece (hr.mono (by decide)) (passes_call (takes_of rfl rfl rfl rfl) (fun _ _ _ _ h => h)) (pa_cons (pv 1) pa_nil)) pa_nil)))))))) pss_nil) (pss_cons (ps_expr (pe_met0 D_Reader_need_end (hr.mono (by decide)) (passes_call (takes_of rfl rfl rfl rfl) (fun _ _ _ _ h => h)) (pv 1))) (pss_one (ps_ret (pv 2)))))))
theorem ok_stands_behind {f : Addr} {fd : FuncData} (F : Fun K "stands_behind" "stands_behind" s_stands_behind f fd) (T : Fx K mg A) (D_in_spans : DefOk P w K mg base CX0 1 "in_spans" ["byte", "spans"] (sp_in_spans K A))
    (pure : ∀ vs H Q E, sp_stands_behind K A vs H Q E → t_stands_behind K A E { nx := fun _ H' => Q .non H', rt := Q } (start ["text", "place", "spans"] vs) H) :
    FnOk P w K mg base CX0 2 f fd ["text", "place", "spans"] (sp_stands_behind K A) := by
  refine F.ok sc_stands_behind (fun vs H Q E h => h.1) (fun cdv A' outer s H vs Q E hr h => ⟨t_stands_behind K A E, ?_, pure vs H Q E h⟩)
  exact (pss_one (ps_ret (pe_and (pe_chain op_le op_lt pe_int (pv 1) (pe_callB c_len (by rfl) T.b_len PySem.boot_len (pa_cons (pv 0) pa_nil))) (pe_one (pe_def D_in_spans (hr.mono (by decide)) pass0 (pa_cons (pe_ix ix_list (pv 0) (pv 1) (fun _ _ => rfl)) (pa_cons (pv 2) pa_nil)))))))
theorem ok_begins {f : Addr} {fd : FuncData} (F : Fun K "begins" "begins" s_begins f fd) (T : Fx K mg A) (D_stands_behind : DefOk P w K mg base CX0 2 "stands_behind" ["text", "place", "spans"] (sp_stands_behind K A))
    (pure : ∀ vs H Q E, sp_begins K A vs H Q E → t_begins K A E { nx := fun _ H' => Q .non H', rt := Q } (start ["text", "place", "spans"] vs) H) :
    FnOk P w K mg base CX0 3 f fd ["text", "place", "spans"] (sp_begins K A) := by
  refine F.ok sc_begins (fun vs H Q E h => h.1) (fun cdv A' outer s H vs Q E hr h => ⟨t_begins K A E, ?_, pure vs H Q E h⟩)
  exact (pss_cons (ps_if (pt_not (pt_tru (pv 2))) (pss_one (ps_ret pe_bl)) pss_nil) (pss_one (ps_ret (pe_and (pe_def D_stands_behind (hr.mono (by decide)) pass0 (pa_cons (pv 0) (pa_cons (pv 1) (pa_cons (pv 2) pa_nil)))) (pe_one (pe_not (pe_def D_stands_behind (hr.mono (by decide)) pass0 (pa_cons (pv 0) (pa_cons (pe_op op_sub (pv 1) pe_int) (pa_cons (pv 2) pa_nil))))))))))
theorem ok_ends {f : Addr} {fd : FuncData} (F : Fun K "ends" "ends" s_ends f fd) (T : Fx K mg A) (D_stands_behind : DefOk P w K mg base CX0 2 "stands_behind" ["text", "place", "spans"] (sp_stands_behind K A))
    (pure : ∀ vs H Q E, sp_ends K A vs H Q E → t_ends K A E { nx := fun _ H' => Q .non H', rt := Q } (start ["text", "place", "spans"] vs) H) :
    FnOk P w K mg base CX0 3 f fd ["text", "place", "spans"] (sp_ends K A) := by
  refine F.ok sc_ends (fun vs H Q E h => h.1) (fun cdv A' outer s H vs Q E hr h => ⟨t_ends K A E, ?_, pure vs H Q E h⟩)
  exact (pss_cons (ps_if (pt_not (pt_tru (pv 2))) (pss_one (ps_ret pe_bl)) pss_nil) (pss_one (ps_ret (pe_and (pe_def D_stands_behind (hr.mono (by decide)) pass0 (pa_cons (pv 0) (pa_cons (pe_op op_sub (pv 1) pe_int) (pa_cons (pv 2) pa_nil)))) (pe_one (pe_not (pe_def D_stands_behind (hr.mono (by decide)) pass0 (pa_cons (pv 0) (pa_cons (pv 1) (pa_cons (pv 2) pa_nil))))))))))
theorem ok_borders {f : Addr} {fd : FuncData} (F : Fun K "borders" "borders" s_borders f fd) (T : Fx K mg A) (D_ends : DefOk P w K mg base CX0 3 "ends" ["text", "place", "spans"] (sp_ends K A)) (D_begins : DefOk P w K mg base CX0 3 "begins" ["text", "place", "spans"] (sp_begins K A))
    (pure : ∀ vs H Q E, sp_borders K A vs H Q E → t_borders K A E { nx := fun _ H' => Q .non H', rt := Q } (start ["text", "left", "right", "found", "place"] vs) H) :
    FnOk P w K mg base CX0 4 f fd ["text", "left", "right"] (sp_borders K A) := by
  refine F.ok sc_borders (fun vs H Q E h => h.1) (fun cdv A' outer s H vs Q E hr h => ⟨t_borders K A E, ?_, pure vs H Q E h⟩)
  exact (pss_cons (ps_set (i := 3) sc_borders.nd rfl (Or.inl rfl) (pe_lst pa_nil)) (pss_cons (ps_for PassesOwn.never rfl (pi_range1 rfl T.b_range (pa_cons (pe_op op_add (pe_callB c_len (by rfl) T.b_len PySem.boot_len (pa_cons (pv 0) pa_nil)) pe_int) pa_nil)) (pg_name (i := 4) sc_borders.nd rfl (Or.inl rfl)) (pss_one (ps_if (PW.pt (pw_and (pt_val (pe_def D_ends (hr.mono (by decide)) pass0 (pa_cons (pv 0) (pa_cons (pv 4) (pa_cons (pv 1) pa_nil))))) (pw_and1 (pt_val (pe_def D_begins (hr.mono (by decide)) pass0 (pa_cons (pv 0) (pa_cons (pv 4) (pa_cons (pv 2) pa_nil)))))))) (pss_one (ps_expr (pe_bm PySem.F.plainAttrs_list PySem.F.slot_list_append PySem.F.type_list_append mt_append (pv 3) (pa_cons (pv 4) pa_nil)))) pss_nil))) (pss_one (ps_ret (pv 3)))))
theorem ok_FromStart_place_in {f : Addr} {fd : FuncData} (F : Fun K "place_in" "FromStart.place_in" s_FromStart_place_in f fd) (T : Fx K mg A) 
    (pure : ∀ vs H Q E, sp_FromStart_place_in K A vs H Q E → t_FromStart_place_in K A E { nx := fun _ H' => Q .non H', rt := Q } (start ["self", "text"] vs) H) :
    FnOk P w K mg base CX0 1 f fd ["self", "text"] (sp_FromStart_place_in K A) := by
  refine F.ok sc_FromStart_place_in (fun vs H Q E h => h.1) (fun cdv A' outer s H vs Q E hr h => ⟨t_FromStart_place_in K A E, ?_, pure vs H Q E h⟩)
  exact (pss_one (ps_ret (pe_ifExp (pt_cmpR op_le (pe_fld (pv 0) rfl) (pe_callB c_len (by rfl) T.b_len PySem.boot_len (pa_cons (pv 1) pa_nil)) (nomark _)) (pe_fld (pv 0) rfl) pe_non)))
theorem ok_FromEnd_place_in {f : Addr} {fd : FuncData} (F : Fun K "place_in" "FromEnd.place_in" s_FromEnd_place_in f fd) (T : Fx K mg A) 
    (pure : ∀ vs H Q E, sp_FromEnd_place_in K A vs H Q E → t_FromEnd_place_in K A E { nx := fun _ H' => Q .non H', rt := Q } (start ["self", "text"] vs) H) :
    FnOk P w K mg base CX0 1 f fd ["self", "text"] (sp_FromEnd_place_in K A) := by
  refine F.ok sc_FromEnd_place_in (fun vs H Q E h => h.1) (fun cdv A' outer s H vs Q E hr h => ⟨t_FromEnd_place_in K A E, ?_, pure vs H Q E h⟩)
  exact (pss_one (ps_ret (pe_ifExp (pt_cmpR op_le (pe_fld (pv 0) rfl) (pe_callB c_len (by rfl) T.b_len PySem.boot_len (pa_cons (pv 1) pa_nil)) (nomark _)) (pe_op op_sub (pe_callB c_len (by rfl) T.b_len PySem.boot_len (pa_cons (pv 1) pa_nil)) (pe_fld (pv 0) rfl)) pe_non)))
theorem ok_Border_place_in {f : Addr} {fd : FuncData} (F : Fun K "place_in" "Border.place_in" s_Border_place_in f fd) (T : Fx K mg A) (D_borders : DefOk P w K mg base CX0 4 "borders" ["text", "left", "right"] (sp_borders K A))
    (pure : ∀ vs H Q E, sp_Border_place_in K A vs H Q E → t_Border_place_in K A E { nx := fun _ H' => Q .non H', rt := Q } (start ["self", "text", "places"] vs) H) :
    FnOk P w K mg base CX0 5 f fd ["self", "text"] (sp_Border_place_in K A) := by
  refine F.ok sc_Border_place_in (fun vs H Q E h => h.1) (fun cdv A' outer s H vs Q E hr h => ⟨t_Border_place_in K A E, ?_, pure vs H Q E h⟩)
  exact (pss_cons (ps_set (i := 2) sc_Border_place_in.nd rfl (Or.inl rfl) (pe_def D_borders (hr.mono (by decide)) pass0 (pa_cons (pv 1) (pa_cons (pe_fld (pv 0) rfl) (pa_cons (pe_fld (pv 0) rfl) pa_nil))))) (pss_cons (ps_if (pt_cmpR op_gt (pe_fld (pv 0) rfl) (pe_callB c_len (by rfl) T.b_len PySem.boot_len (pa_cons (pv 2) pa_nil)) (nomark _)) (pss_one (ps_ret pe_non)) pss_nil) (pss_cons (ps_if (pt_val (pe_fld (pv 0) rfl)) (pss_one (ps_ret (pe_ix ix_list (pv 2) (pe_op op_sub (pe_callB c_len (by rfl) T.b_len PySem.boot_len (pa_cons (pv 2) pa_nil)) (pe_fld (pv 0) rfl)) (fun _ _ => rfl)))) pss_nil) (pss_one (ps_ret (pe_ix ix_list (pv 2) (pe_op op_sub (pe_fld (pv 0) rfl) pe_int) (fun _ _ => rfl)))))))
theorem ok_capital {f : Addr} {fd : FuncData} (F : Fun K "capital" "capital" s_capital f fd) (T : Fx K mg A) 
    (pure : ∀ vs H Q E, sp_capital K A vs H Q E → t_capital K A E { nx := fun _ H' => Q .non H', rt := Q } (start ["byte"] vs) H) :
    FnOk P w K mg base CX0 1 f fd ["byte"] (sp_capital K A) := by
  refine F.ok sc_capital (fun vs H Q E h => h.1) (fun cdv A' outer s H vs Q E hr h => ⟨t_capital K A E, ?_, pure vs H Q E h⟩)
  exact (pss_one (ps_ret (pe_ifExp (pt_chain op_le op_le pe_int (pv 0) pe_int) (pe_op op_sub (pv 0) pe_int) (pv 0))))
theorem ok_small {f : Addr} {fd : FuncData} (F : Fun K "small" "small" s_small f fd) (T : Fx K mg A) 
    (pure : ∀ vs H Q E, sp_small K A vs H Q E → t_small K A E { nx := fun _ H' => Q .non H', rt := Q } (start ["byte"] vs) H) :
    FnOk P w K mg base CX0 1 f fd ["byte"] (sp_small K A) := by
  refine F.ok sc_small (fun vs H Q E h => h.1) (fun cdv A' outer s H vs Q E hr h => ⟨t_small K A E, ?_, pure vs H Q E h⟩)
  exact (pss_one (ps_ret (pe_ifExp (pt_chain op_le op_le pe_int (pv 0) pe_int) (pe_op op_add (pv 0) pe_int) (pv 0))))
theorem ok_turned {f : Addr} {fd : FuncData} (F : Fun K "turned" "turned" s_turned f fd) (T : Fx K mg A) (D_capital : DefOk P w K mg base CX0 1 "capital" ["byte"] (sp_capital K A)) (D_small : DefOk P w K mg base CX0 1 "small" ["byte"] (sp_small K A))
    (pure : ∀ vs H Q E, sp_turned K A vs H Q E → t_turned K A E { nx := fun _ H' => Q .non H', rt := Q } (start ["text", "turn", "byte"] vs) H) :
    FnOk P w K mg base CX0 2 f fd ["text", "turn"] (sp_turned K A) := by
  refine F.ok sc_turned (fun vs H Q E h => h.1) (fun cdv A' outer s H vs Q E hr h => ⟨t_turned K A E, ?_, pure vs H Q E h⟩)
  exact (pss_cons (ps_if (pt_cmpR op_eq (pv 1) pe_str (nomark _)) (pss_one (ps_ret (pe_lc (own := [("byte", 2)]) (g := (gName 2)) (tt := tYes) rfl sc_turned.nd (pi_list (pv 0)) (blkOk_by (N := ["text", "turn", "byte"]) (sc := defScope s_turned) (by decide +kernel)) (fun _ _ _ _ _ => (pg_name (i := 2) sc_turned.nd rfl (Or.inl rfl))) (fun _ _ _ _ _ => pts_nil) (fun _ _ _ _ _ => (pe_def D_capital (hr.mono (by decide)) pass0 (pa_cons (pv 2) pa_nil)))))) pss_nil) (pss_cons (ps_if (pt_cmpR op_eq (pv 1) pe_str (nomark _)) (pss_one (ps_ret (pe_lc (own := [("byte", 2)]) (g := (gName 2)) (tt := tYes) rfl sc_turned.nd (pi_list (pv 0)) (blkOk_by (N := ["text", "turn", "byte"]) (sc := defScope s_turned) (by decide +kernel)) (fun _ _ _ _ _ => (pg_name (i := 2) sc_turned.nd rfl (Or.inl rfl))) (fun _ _ _ _ _ => pts_nil) (fun _ _ _ _ _ => (pe_def D_small (hr.mono (by decide)) pass0 (pa_cons (pv 2) pa_nil)))))) pss_nil) (pss_cons (ps_if (pt_cmpR op_eq (pv 1) pe_str (nomark _)) (pss_one (ps_ret (pe_op op_cat (pe_lc (own := [("byte", 2)]) (g := (gName 2)) (tt := tYes) rfl sc_turned.nd (pi_list (pe_slice sl_list (pv 0) po_none (po_some pe_int))) (blkOk_by (N := ["text", "turn", "byte"]) (sc := defScope s_turned) (by decide +kernel)) (fun _ _ _ _ _ => (pg_name (i := 2) sc_turned.nd rfl (Or.inl rfl))) (fun _ _ _ _ _ => pts_nil) (fun _ _ _ _ _ => (pe_def D_capital (hr.mono (by decide)) pass0 (pa_cons (pv 2) pa_nil)))) (pe_lc (own := [("byte", 2)]) (g := (gName 2)) (tt := tYes) rfl sc_turned.nd (pi_list (pe_slice sl_list (pv 0) (po_some pe_int) po_none)) (blkOk_by (N := ["text", "turn", "byte"]) (sc := defScope s_turned) (by decide +kernel)) (fun _ _ _ _ _ => (pg_name (i := 2) sc_turned.nd rfl (Or.inl rfl))) (fun _ _ _ _ _ => pts_nil) (fun _ _ _ _ _ => (pe_def D_small (hr.mono (by decide)) pass0 (pa_cons (pv 2) pa_nil))))))) pss_nil) (pss_one (ps_ret (pv 0))))))
theorem ok_Given_source {f : Addr} {fd : FuncData} (F : Fun K "source" "Given.source" s_Given_source f fd) (T : Fx K mg A) 
    (pure : ∀ vs H Q E, sp_Given_source K A vs H Q E → t_Given_source K A E { nx := fun _ H' => Q .non H', rt := Q } (start ["self", "k"] vs) H) :
    FnOk P w K mg base CX0 1 f fd ["self", "k"] (sp_Given_source K A) := by
  refine F.ok sc_Given_source (fun vs H Q E h => h.1) (fun cdv A' outer s H vs Q E hr h => ⟨t_Given_source K A E, ?_, pure vs H Q E h⟩)
  exact (pss_cons (ps_if (pt_cmpR op_eq (pe_fld (pv 0) rfl) pe_int (nomark _)) (pss_one (ps_ret (pe_lst (pa_cons pe_int (pa_cons pe_int pa_nil))))) pss_nil) (pss_one (ps_ret (pe_lst (pa_cons (pe_fld (pv 0) rfl) (pa_cons (pe_op op_add (pe_fld (pv 0) rfl) (pv 1)) pa_nil))))))
theorem ok_Constant_given_on {f : Addr} {fd : FuncData} (F : Fun K "given_on" "Constant.given_on" s_Constant_given_on f fd) (T : Fx K mg A) (D_new_Given : MakeOk P w K mg base 1 A.c_Given "Given" 3 fo_Given)
    (pure : ∀ vs H Q E, sp_Constant_given_on K A vs H Q E → t_Constant_given_on K A E { nx := fun _ H' => Q .non H', rt := Q } (start ["self", "record"] vs) H) :
    FnOk P w K mg base CX0 3 f fd ["self", "record"] (sp_Constant_given_on K A) := by
  refine F.ok sc_Constant_given_on (fun vs H Q E h => h.1) (fun cdv A' outer s H vs Q E hr h => ⟨t_Constant_given_on K A E, ?_, pure vs H Q E h⟩)
  exact (pss_one (ps_ret (pe_new D_new_Given (hr.mono (by decide)) (pa_cons (pe_callTy c_list (by rfl) T.b_list (by decide +kernel) (pa_cons (pe_fld (pv 0) rfl) pa_nil)) (pa_cons pe_int (pa_cons pe_int pa_nil))))))
theorem ok_Part_given_on {f : Addr} {fd : FuncData} (F : Fun K "given_on" "Part.given_on" s_Part_given_on f fd) (T : Fx K mg A) (D_dyn_Pos_place_in : ∀ C sp, tb_Pos K A C sp → MethOk P w K mg base CX0 5 C "place_in" ["self", "text"] sp) (D_turned : DefOk P w K mg base CX0 2 "turned" ["text", "turn"] (sp_turned K A)) (D_new_Given : MakeOk P w K mg base 1 A.c_Given "Given" 3 fo_Given)
    (pure : ∀ vs H Q E, sp_Part_given_on K A vs H Q E → t_Part_given_on K A E { nx := fun _ H' => Q .non H', rt := Q } (start ["self", "record", "text", "start", "end"] vs) H) :
    FnOk P w K mg base CX0 6 f fd ["self", "record"] (sp_Part_given_on K A) := by
  refine F.ok sc_Part_given_on (fun vs H Q E h => h.1) (fun cdv A' outer s H vs Q E hr h => ⟨t_Part_given_on K A E, ?_, pure vs H Q E h⟩)
  exact (pss_cons (ps_if (pt_cmpR op_gt (pe_fld (pv 0) rfl) (pe_callB c_len (by rfl) T.b_len PySem.boot_len (pa_cons (pv 1) pa_nil)) (nomark _)) (pss_one (ps_ret pe_non)) pss_nil) (pss_cons (ps_set (i := 2) sc_Part_given_on.nd rfl (Or.inl rfl) (pe_ix ix_list (pv 1) (pe_op op_sub (pe_fld (pv 0) rfl) pe_int) (fun _ _ => rfl))) (pss_cons (ps_set (i := 3) sc_Part_given_on.nd rfl (Or.inl rfl) (pe_metD D_dyn_Pos_place_in (hr.mono (by decide)) pass0 (pe_fld (pv 0) rfl) (pa_cons (pv 2) pa_nil))) (pss_cons (ps_set (i := 4) sc_Part_given_on.nd rfl (Or.inl rfl) (pe_metD D_dyn_Pos_place_in (hr.mono (by decide)) pass0 (pe_fld (pv 0) rfl) (pa_cons (pv 2) pa_nil))) (pss_cons (ps_if (PW.pt (pw_or (pt_cmpR op_isNo (pv 3) pe_non (nomark _)) (pw_or (pt_cmpR op_isNo (pv 4) pe_non (nomark _)) (pw_or1 (pt_cmpR op_ge (pv 3) (pv 4) (nomark _)))))) (pss_one (ps_ret pe_non)) pss_nil) (pss_one (ps_ret (pe_new D_new_Given (hr.mono (by decide)) (pa_cons (pe_def D_turned (hr.mono (by decide)) pass0 (pa_cons (pe_slice sl_list (pv 2) (po_some (pv 3)) (po_some (pv 4))) (pa_cons (pe_fld (pv 0) rfl) pa_nil))) (pa_cons (pe_fld (pv 0) rfl) (pa_cons (pv 3) pa_nil)))))))))))
theorem ok_all_given {f : Addr} {fd : FuncData} (F : Fun K "all_given" "all_given" s_all_given f fd) (T : Fx K mg A) (D_dyn_Piece_given_on : ∀ C sp, tb_Piece K A C sp → MethOk P w K mg base CX0 6 C "given_on" ["self", "record"] sp) (D_err_NoOutput : ErrOk P w K mg A.c_NoOutput "NoOutput" 1 PySem.OeX.fo_NoOutput)
    (pure : ∀ vs H Q E, sp_all_given K A vs H Q E → t_all_given K A E { nx := fun _ H' => Q .non H', rt := Q } (start ["program", "record", "found", "number", "piece", "given"] vs) H) :
    FnOk P w K mg base (L2.CX P w) 7 f fd ["program", "record"] (sp_all_given K A) := by
  refine F.okX sc_all_given (fun vs H Q E h => h.1) (fun cdv A' outer s H vs Q E hr h => ⟨t_all_given K A E, ?_, pure vs H Q E h⟩)
  exact (pss_cons (ps_set (i := 2) sc_all_given.nd rfl (Or.inl rfl) (pe_lst pa_nil)) (pss_cons (ps_for (passes_of rfl) rfl (pi_enum rfl T.b_enumerate (pa_cons (pv 0) pa_nil)) (pg_tup (by rfl) (pgs_cons (pg_name (i := 3) sc_all_given.nd rfl (Or.inl rfl)) (pgs_cons (pg_name (i := 4) sc_all_given.nd rfl (Or.inl rfl)) pgs_nil))) (pss_cons (ps_set (i := 5) sc_all_given.nd rfl (Or.inl rfl) (pe_metD D_dyn_Piece_given_on (hr.mono (by decide)) pass0 (pv 4) (pa_cons (pv 1) pa_nil))) (pss_cons (ps_if (pt_cmpR op_isNo (pv 5) pe_non (nomark _)) (pss_one (ps_err D_err_NoOutput rfl hr (takes_of rfl rfl rfl rfl) (pa_cons (pv 3) pa_nil))) pss_nil) (pss_one (ps_expr (pe_bm PySem.F.plainAttrs_list PySem.F.slot_list_append PySem.F.type_list_append mt_append (pv 2) (pa_cons (pv 5) pa_nil))))))) (pss_one (ps_ret (pv 2)))))
theorem ok_joined {f : Addr} {fd : FuncData} (F : Fun K "joined" "joined" s_joined f fd) (T : Fx K mg A) 
    (pure : ∀ vs H Q E, sp_joined K A vs H Q E → t_joined K A E { nx := fun _ H' => Q .non H', rt := Q } (start ["givens", "text", "given"] vs) H) :
    FnOk P w K mg base CX0 1 f fd ["givens"] (sp_joined K A) := by
  refine F.ok sc_joined (fun vs H Q E h => h.1) (fun cdv A' outer s H vs Q E hr h => ⟨t_joined K A E, ?_, pure vs H Q E h⟩)
  exact (pss_cons (ps_set (i := 1) sc_joined.nd rfl (Or.inl rfl) (pe_lst pa_nil)) (pss_cons (ps_for PassesOwn.never rfl (pi_list (pv 0)) (pg_name (i := 2) sc_joined.nd rfl (Or.inl rfl)) (pss_one (ps_expr (pe_bm PySem.F.plainAttrs_list PySem.F.slot_list_extend PySem.F.type_list_extend mt_extend (pv 1) (pa_cons (pe_fld (pv 2) rfl) pa_nil))))) (pss_one (ps_ret (pv 1)))))
theorem ok_is_plain {f : Addr} {fd : FuncData} (F : Fun K "is_plain" "is_plain" s_is_plain f fd) (T : Fx K mg A) 
    (pure : ∀ vs H Q E, sp_is_plain K A vs H Q E → t_is_plain K A E { nx := fun _ H' => Q .non H', rt := Q } (start ["text", "longest", "byte"] vs) H) :
    FnOk P w K mg base CX0 1 f fd ["text", "longest"] (sp_is_plain K A) := by
  refine F.ok sc_is_plain (fun vs H Q E h => h.1) (fun cdv A' outer s H vs Q E hr h => ⟨t_is_plain K A E, ?_, pure vs H Q E h⟩)
  exact (pss_cons (ps_if (pt_cmpR op_gt (pe_callB c_len (by rfl) T.b_len PySem.boot_len (pa_cons (pv 0) pa_nil)) (pv 1) (nomark _)) (pss_one (ps_ret pe_bl)) pss_nil) (pss_one (ps_ret (pe_callB (cr_all rfl) (by rfl) T.b_all (by decide +kernel) (pa_cons (pe_lc (own := [("byte", 2)]) (g := (gName 2)) (tt := tYes) rfl sc_is_plain.nd (pi_list (pv 0)) (blkOk_by (N := ["text", "longest", "byte"]) (sc := defScope s_is_plain) (by decide +kernel)) (fun _ _ _ _ _ => (pg_name (i := 2) sc_is_plain.nd rfl (Or.inl rfl))) (fun _ _ _ _ _ => pts_nil) (fun _ _ _ _ _ => (pe_chain op_le op_le (pe_globI T.m_LOWEST_BYTE) (pv 2) (pe_globI T.m_HIGHEST_BYTE)))) pa_nil)))))
theorem ok_is_field {f : Addr} {fd : FuncData} (F : Fun K "is_field" "is_field" s_is_field f fd) (T : Fx K mg A) (D_is_plain : DefOk P w K mg base CX0 1 "is_plain" ["text", "longest"] (sp_is_plain K A))
    (pure : ∀ vs H Q E, sp_is_field K A vs H Q E → t_is_field K A E { nx := fun _ H' => Q .non H', rt := Q } (start ["text"] vs) H) :
    FnOk P w K mg base CX0 2 f fd ["text"] (sp_is_field K A) := by
  refine F.ok sc_is_field (fun vs H Q E h => h.1) (fun cdv A' outer s H vs Q E hr h => ⟨t_is_field K A E, ?_, pure vs H Q E h⟩)
  exact (pss_one (ps_ret (pe_def D_is_plain (hr.mono (by decide)) pass0 (pa_cons (pv 0) (pa_cons (pe_globI T.m_LONGEST_FIELD) pa_nil)))))
theorem ok_is_record {f : Addr} {fd : FuncData} (F : Fun K "is_record" "is_record" s_is_record f fd) (T : Fx K mg A) (D_is_field : DefOk P w K mg base CX0 2 "is_field" ["text"] (sp_is_field K A))
    (pure : ∀ vs H Q E, sp_is_record K A vs H Q E → t_is_record K A E { nx := fun _ H' => Q .non H', rt := Q } (start ["texts", "text"] vs) H) :
    FnOk P w K mg base CX0 3 f fd ["texts"] (sp_is_record K A) := by
  refine F.ok sc_is_record (fun vs H Q E h => h.1) (fun cdv A' outer s H vs Q E hr h => ⟨t_is_record K A E, ?_, pure vs H Q E h⟩)
  exact (pss_cons (ps_if (PW.pt (pw_or (pt_cmpR op_eq (pe_callB c_len (by rfl) T.b_len PySem.boot_len (pa_cons (pv 0) pa_nil)) pe_int (nomark _)) (pw_or1 (pt_cmpR op_gt (pe_callB c_len (by rfl) T.b_len PySem.boot_len (pa_cons (pv 0) pa_nil)) (pe_globI T.m_MOST_FIELDS) (nomark _))))) (pss_one (ps_ret pe_bl)) pss_nil) (pss_one (ps_ret (pe_callB (cr_all rfl) (by rfl) T.b_all (by decide +kernel) (pa_cons (pe_lc (own := [("text", 1)]) (g := (gName 1)) (tt := tYes) rfl sc_is_record.nd (pi_list (pv 0)) (blkOk_by (N := ["texts", "text"]) (sc := defScope s_is_record) (by decide +kernel)) (fun _ _ _ _ _ => (pg_name (i := 1) sc_is_record.nd rfl (Or.inl rfl))) (fun _ _ _ _ _ => pts_nil) (fun _ _ _ _ _ => (pe_def D_is_field (hr.mono (by decide)) pass0 (pa_cons (pv 1) pa_nil)))) pa_nil)))))
theorem ok_split_texts {f : Addr} {fd : FuncData} (F : Fun K "split_texts" "split_texts" s_split_texts f fd) (T : Fx K mg A) 
    (pure : ∀ vs H Q E, sp_split_texts K A vs H Q E → t_split_texts K A E { nx := fun _ H' => Q .non H', rt := Q } (start ["numbers", "texts", "place", "begin"] vs) H) :
    FnOk P w K mg base CX0 1 f fd ["numbers"] (sp_split_texts K A) := by
  refine F.ok sc_split_texts (fun vs H Q E h => h.1) (fun cdv A' outer s H vs Q E hr h => ⟨t_split_texts K A E, ?_, pure vs H Q E h⟩)
  exact (pss_cons (ps_set (i := 1) sc_split_texts.nd rfl (Or.inl rfl) (pe_lst pa_nil)) (pss_cons (ps_set (i := 2) sc_split_texts.nd rfl (Or.inl rfl) pe_int) (pss_cons (ps_while PassesOwn.never (pt_cmpR op_lt (pv 2) (pe_callB c_len (by rfl) T.b_len PySem.boot_len (pa_cons (pv 0) pa_nil)) (nomark _)) (pss_cons (ps_set (i := 3) sc_split_texts.nd rfl (Or.inl rfl) (pe_op op_add (pv 2) pe_int)) (pss_cons (ps_set (i := 2) sc_split_texts.nd rfl (Or.inl rfl) (pe_op op_add (pv 3) (pe_ix ix_list (pv 0) (pv 2) (fun _ _ => rfl)))) (pss_one (ps_expr (pe_bm PySem.F.plainAttrs_list PySem.F.slot_list_append PySem.F.type_list_append mt_append (pv 1) (pa_cons (pe_slice sl_list (pv 0) (po_some (pv 3)) (po_some (pv 2))) pa_nil))))))) (pss_one (ps_ret (pv 1))))))
theorem ok_told_record {f : Addr} {fd : FuncData} (F : Fun K "told_record" "told_record" s_told_record f fd) (T : Fx K mg A) 
    (pure : ∀ vs H Q E, sp_told_record K A vs H Q E → t_told_record K A E { nx := fun _ H' => Q .non H', rt := Q } (start ["record", "told", "field"] vs) H) :
    FnOk P w K mg base CX0 1 f fd ["record"] (sp_told_record K A) := by
  refine F.ok sc_told_record (fun vs H Q E h => h.1) (fun cdv A' outer s H vs Q E hr h => ⟨t_told_record K A E, ?_, pure vs H Q E h⟩)
  exact (pss_cons (ps_set (i := 1) sc_told_record.nd rfl (Or.inl rfl) (pe_lst (pa_cons (pe_callB c_len (by rfl) T.b_len PySem.boot_len (pa_cons (pv 0) pa_nil)) pa_nil))) (pss_cons (ps_for PassesOwn.never rfl (pi_list (pv 0)) (pg_name (i := 2) sc_told_record.nd rfl (Or.inl rfl)) (pss_cons (ps_expr (pe_bm PySem.F.plainAttrs_list PySem.F.slot_list_append PySem.F.type_list_append mt_append (pv 1) (pa_cons (pe_callB c_len (by rfl) T.b_len PySem.boot_len (pa_cons (pv 2) pa_nil)) pa_nil))) (pss_one (ps_expr (pe_bm PySem.F.plainAttrs_list PySem.F.slot_list_extend PySem.F.type_list_extend mt_extend (pv 1) (pa_cons (pv 2) pa_nil)))))) (pss_one (ps_ret (pv 1)))))
theorem ok_split_calls {f : Addr} {fd : FuncData} (F : Fun K "split_calls" "split_calls" s_split_calls f fd) (T : Fx K mg A) (D_new_Call : MakeOk P w K mg base 1 A.c_Call "Call" 3 fo_Call)
    (pure : ∀ vs H Q E, sp_split_calls K A vs H Q E → t_split_calls K A E { nx := fun _ H' => Q .non H', rt := Q } (start ["calls", "found", "place", "kind", "shape", "begin", "numbers", "row"] vs) H) :
    FnOk P w K mg base CX0 3 f fd ["calls"] (sp_split_calls K A) := by
  refine F.ok sc_split_calls (fun vs H Q E h => h.1) (fun cdv A' outer s H vs Q E hr h => ⟨t_split_calls K A E, ?_, pure vs H Q E h⟩)
  exact (pss_cons (ps_set (i := 1) sc_split_calls.nd rfl (Or.inl rfl) (pe_lst pa_nil)) (pss_cons (ps_set (i := 2) sc_split_calls.nd rfl (Or.inl rfl) pe_int) (pss_cons (ps_while PassesOwn.never (pt_cmpR op_lt (pv 2) (pe_callB c_len (by rfl) T.b_len PySem.boot_len (pa_cons (pv 0) pa_nil)) (nomark _)) (pss_cons (ps_set (i := 3) sc_split_calls.nd rfl (Or.inl rfl) (pe_ix ix_list (pv 0) (pv 2) (fun _ _ => rfl))) (pss_cons (ps_set (i := 4) sc_split_calls.nd rfl (Or.inl rfl) (pe_ix ix_tup (pe_globR T.m_SHAPES) (pv 3) (fun _ _ => rfl))) (pss_cons (ps_set (i := 5) sc_split_calls.nd rfl (Or.inl rfl) (pe_op op_add (pv 2) pe_int)) (pss_cons (ps_set (i := 2) sc_split_calls.nd rfl (Or.inl rfl) (pe_op op_add (pv 5) (pe_ix ix_tup (pv 4) pe_int (fun _ _ => rfl)))) (pss_cons (ps_set (i := 6) sc_split_calls.nd rfl (Or.inl rfl) (pe_slice sl_list (pv 0) (po_some (pv 5)) (po_some (pv 2)))) (pss_cons (ps_set (i := 7) sc_split_calls.nd rfl (Or.inl rfl) (pe_lst pa_nil)) (pss_cons (ps_if (pt_val (pe_ix ix_tup (pv 4) pe_int (fun _ _ => rfl))) (pss_cons (ps_set (i := 5) sc_split_calls.nd rfl (Or.inl rfl) (pe_op op_add (pv 2) pe_int)) (pss_cons (ps_set (i := 2) sc_split_calls.nd rfl (Or.inl rfl) (pe_op op_add (pv 5) (pe_ix ix_list (pv 0) (pv 2) (fun _ _ => rfl)))) (pss_one (ps_set (i := 7) sc_split_calls.nd rfl (Or.inl rfl) (pe_slice sl_list (pv 0) (po_some (pv 5)) (po_some (pv 2))))))) pss_nil) (pss_one (ps_expr (pe_bm PySem.F.plainAttrs_list PySem.F.slot_list_append PySem.F.type_list_append mt_append (pv 1) (pa_cons (pe_new D_new_Call (hr.mono (by decide)) (pa_cons (pv 3) (pa_cons (pv 6) (pa_cons (pv 7) pa_nil)))) pa_nil)))))))))))) (pss_one (ps_ret (pv 1))))))
theorem ok_need_text {f : Addr} {fd : FuncData} (F : Fun K "need_text" "need_text" s_need_text f fd) (T : Fx K mg A) (D_is_plain : DefOk P w K mg base CX0 1 "is_plain" ["text", "longest"] (sp_is_plain K A)) (D_err_NoSuchText : PErr K mg A.c_NoSuchText "NoSuchText")
    (pure : ∀ vs H Q E, sp_need_text K A vs H Q E → t_need_text K A E { nx := fun _ H' => Q .non H', rt := Q } (start ["text"] vs) H) :
    FnOk P w K mg base (L2.CX P w) 2 f fd ["text"] (sp_need_text K A) := by
  refine F.okX sc_need_text (fun vs H Q E h => h.1) (fun cdv A' outer s H vs Q E hr h => ⟨t_need_text K A E, ?_, pure vs H Q E h⟩)
  exact (pss_one (ps_if (pt_not (pt_val (pe_def D_is_plain (hr.mono (by decide)) pass0 (pa_cons (pv 0) (pa_cons (pe_globI T.m_LONGEST_TEXT) pa_nil))))) (pss_one (ps_err0 D_err_NoSuchText rfl (takes_of rfl rfl rfl rfl))) pss_nil))
theorem ok_common_beginning {f : Addr} {fd : FuncData} (F : Fun K "common_beginning" "common_beginning" s_common_beginning f fd) (T : Fx K mg A) 
    (pure : ∀ vs H Q E, sp_common_beginning K A vs H Q E → t_common_beginning K A E { nx := fun _ H' => Q .non H', rt := Q } (start ["left", "right", "most", "count"] vs) H) :
    FnOk P w K mg base CX0 1 f fd ["left", "right"] (sp_common_beginning K A) := by
  refine F.ok sc_common_beginning (fun vs H Q E h => h.1) (fun cdv A' outer s H vs Q E hr h => ⟨t_common_beginning K A E, ?_, pure vs H Q E h⟩)
  exact (pss_cons (ps_set (i := 2) sc_common_beginning.nd rfl (Or.inl rfl) (pe_callB (c_min2 rfl) (by rfl) T.b_min (by decide +kernel) (pa_cons (pe_callB c_len (by rfl) T.b_len PySem.boot_len (pa_cons (pv 0) pa_nil)) (pa_cons (pe_callB c_len (by rfl) T.b_len PySem.boot_len (pa_cons (pv 1) pa_nil)) pa_nil)))) (pss_cons (ps_set (i := 3) sc_common_beginning.nd rfl (Or.inl rfl) pe_int) (pss_cons (ps_while PassesOwn.never (PW.pt (pw_and (pt_cmpR op_lt (pv 3) (pv 2) (nomark _)) (pw_and1 (pt_cmpR op_eq (pe_ix ix_list (pv 0) (pv 3) (fun _ _ => rfl)) (pe_ix ix_list (pv 1) (pv 3) (fun _ _ => rfl)) (nomark _))))) (pss_one (ps_aug (i := 3) sc_common_beginning.nd rfl (Or.inl rfl) pe_int ip_add))) (pss_one (ps_ret (pv 3))))))
theorem ok_common_end {f : Addr} {fd : FuncData} (F : Fun K "common_end" "common_end" s_common_end f fd) (T : Fx K mg A) 
    (pure : ∀ vs H Q E, sp_common_end K A vs H Q E → t_common_end K A E { nx := fun _ H' => Q .non H', rt := Q } (start ["left", "right", "first", "most", "count"] vs) H) :
    FnOk P w K mg base CX0 1 f fd ["left", "right", "first"] (sp_common_end K A) := by
  refine F.ok sc_common_end (fun vs H Q E h => h.1) (fun cdv A' outer s H vs Q E hr h => ⟨t_common_end K A E, ?_, pure vs H Q E h⟩)
  exact (pss_cons (ps_set (i := 3) sc_common_end.nd rfl (Or.inl rfl) (pe_op op_sub (pe_callB (c_min2 rfl) (by rfl) T.b_min (by decide +kernel) (pa_cons (pe_callB c_len (by rfl) T.b_len PySem.boot_len (pa_cons (pv 0) pa_nil)) (pa_cons (pe_callB c_len (by rfl) T.b_len PySem.boot_len (pa_cons (pv 1) pa_nil)) pa_nil))) (pv 2))) (pss_cons (ps_set (i := 4) sc_common_end.nd rfl (Or.inl rfl) pe_int) (pss_cons (ps_while PassesOwn.never (PW.pt (pw_and (pt_cmpR op_lt (pv 4) (pv 3) (nomark _)) (pw_and1 (pt_cmpR op_eq (pe_ix ix_list (pv 0) (pe_op op_sub (pe_op op_sub (pe_callB c_len (by rfl) T.b_len PySem.boot_len (pa_cons (pv 0) pa_nil)) pe_int) (pv 4)) (fun _ _ => rfl)) (pe_ix ix_list (pv 1) (pe_op op_sub (pe_op op_sub (pe_callB c_len (by rfl) T.b_len PySem.boot_len (pa_cons (pv 1) pa_nil)) pe_int) (pv 4)) (fun _ _ => rfl)) (nomark _))))) (pss_one (ps_aug (i := 4) sc_common_end.nd rfl (Or.inl rfl) pe_int ip_add))) (pss_one (ps_ret (pv 4))))))
theorem ok_narrowed {f : Addr} {fd : FuncData} (F : Fun K "narrowed" "narrowed" s_narrowed f fd) (T : Fx K mg A) (D_common_beginning : DefOk P w K mg base CX0 1 "common_beginning" ["left", "right"] (sp_common_beginning K A)) (D_common_end : DefOk P w K mg base CX0 1 "common_end" ["left", "right", "first"] (sp_common_end K A)) (D_new_Edit : MakeOk P w K mg base 1 A.c_Edit "Edit" 3 fo_Edit)
    (pure : ∀ vs H Q E, sp_narrowed K A vs H Q E → t_narrowed K A E { nx := fun _ H' => Q .non H', rt := Q } (start ["output", "edit", "old", "first", "final"] vs) H) :
    FnOk P w K mg base CX0 3 f fd ["output", "edit"] (sp_narrowed K A) := by
  refine F.ok sc_narrowed (fun vs H Q E h => h.1) (fun cdv A' outer s H vs Q E hr h => ⟨t_narrowed K A E, ?_, pure vs H Q E h⟩)
  exact (pss_cons (ps_set (i := 2) sc_narrowed.nd rfl (Or.inl rfl) (pe_slice sl_list (pv 0) (po_some (pe_fld (pv 1) rfl)) (po_some (pe_fld (pv 1) rfl)))) (pss_cons (ps_set (i := 3) sc_narrowed.nd rfl (Or.inl rfl) (pe_def D_common_beginning (hr.mono (by decide)) pass0 (pa_cons (pv 2) (pa_cons (pe_fld (pv 1) rfl) pa_nil)))) (pss_cons (ps_set (i := 4) sc_narrowed.nd rfl (Or.inl rfl) (pe_def D_common_end (hr.mono (by decide)) pass0 (pa_cons (pv 2) (pa_cons (pe_fld (pv 1) rfl) (pa_cons (pv 3) pa_nil))))) (pss_one (ps_ret (pe_new D_new_Edit (hr.mono (by decide)) (pa_cons (pe_op op_add (pe_fld (pv 1) rfl) (pv 3)) (pa_cons (pe_op op_sub (pe_fld (pv 1) rfl) (pv 4)) (pa_cons (pe_slice sl_list (pe_fld (pv 1) rfl) (po_some (pv 3)) (po_some (pe_op op_sub (pe_callB c_len (by rfl) T.b_len PySem.boot_len (pa_cons (pe_fld (pv 1) rfl) pa_nil)) (pv 4)))) pa_nil)))))))))
theorem ok_holders {f : Addr} {fd : FuncData} (F : Fun K "holders" "holders" s_holders f fd) (T : Fx K mg A) 
    (pure : ∀ vs H Q E, sp_holders K A vs H Q E → t_holders K A E { nx := fun _ H' => Q .non H', rt := Q } (start ["shown", "edit", "found", "begin", "given", "end"] vs) H) :
    FnOk P w K mg base CX0 1 f fd ["shown", "edit"] (sp_holders K A) := by
  refine F.ok sc_holders (fun vs H Q E h => h.1) (fun cdv A' outer s H vs Q E hr h => ⟨t_holders K A E, ?_, pure vs H Q E h⟩)
  exact (pss_cons (ps_set (i := 2) sc_holders.nd rfl (Or.inl rfl) (pe_lst pa_nil)) (pss_cons (ps_set (i := 3) sc_holders.nd rfl (Or.inl rfl) pe_int) (pss_cons (ps_for PassesOwn.never rfl (pi_list (pe_fld (pv 0) rfl)) (pg_name (i := 4) sc_holders.nd rfl (Or.inl rfl)) (pss_cons (ps_set (i := 5) sc_holders.nd rfl (Or.inl rfl) (pe_op op_add (pv 3) (pe_callB c_len (by rfl) T.b_len PySem.boot_len (pa_cons (pe_fld (pv 4) rfl) pa_nil)))) (pss_cons (ps_if (PW.pt (pw_and (pt_cmpR op_gt (pe_fld (pv 4) rfl) pe_int (nomark _)) (pw_and (pt_cmpR op_le (pv 3) (pe_fld (pv 1) rfl) (nomark _)) (pw_and1 (pt_cmpR op_le (pe_fld (pv 1) rfl) (pv 5) (nomark _)))))) (pss_one (ps_expr (pe_bm PySem.F.plainAttrs_list PySem.F.slot_list_append PySem.F.type_list_append mt_append (pv 2) (pa_cons (pe_tup (pa_cons (pv 4) (pa_cons (pv 3) pa_nil))) pa_nil)))) pss_nil) (pss_one (ps_set (i := 3) sc_holders.nd rfl (Or.inl rfl) (pv 5)))))) (pss_one (ps_ret (pv 2))))))
theorem ok_changed_record {f : Addr} {fd : FuncData} (F : Fun K "changed_record" "changed_record" s_changed_record f fd) (T : Fx K mg A) 
    (pure : ∀ vs H Q E, sp_changed_record K A vs H Q E → t_changed_record K A E { nx := fun _ H' => Q .non H', rt := Q } (start ["record", "given", "begin", "edit", "field", "start", "end", "changed"] vs) H) :
    FnOk P w K mg base CX0 1 f fd ["record", "given", "begin", "edit"] (sp_changed_record K A) := by
  refine F.ok sc_changed_record (fun vs H Q E h => h.1) (fun cdv A' outer s H vs Q E hr h => ⟨t_changed_record K A E, ?_, pure vs H Q E h⟩)
  exact (pss_cons (ps_set (i := 4) sc_changed_record.nd rfl (Or.inl rfl) (pe_ix ix_list (pv 0) (pe_op op_sub (pe_fld (pv 1) rfl) pe_int) (fun _ _ => rfl))) (pss_cons (ps_set (i := 5) sc_changed_record.nd rfl (Or.inl rfl) (pe_op op_sub (pe_op op_add (pe_fld (pv 1) rfl) (pe_fld (pv 3) rfl)) (pv 2))) (pss_cons (ps_set (i := 6) sc_changed_record.nd rfl (Or.inl rfl) (pe_op op_sub (pe_op op_add (pe_fld (pv 1) rfl) (pe_fld (pv 3) rfl)) (pv 2))) (pss_cons (ps_set (i := 7) sc_changed_record.nd rfl (Or.inl rfl) (pe_callTy c_list (by rfl) T.b_list (by decide +kernel) (pa_cons (pv 0) pa_nil))) (pss_cons (ps_asg (pe_op op_cat (pe_op op_cat (pe_slice sl_list (pv 4) po_none (po_some (pv 5))) (pe_fld (pv 3) rfl)) (pe_slice sl_list (pv 4) (po_some (pv 6)) po_none)) (pg_sub (pv 7) (pe_op op_sub (pe_fld (pv 1) rfl) pe_int) set_list)) (pss_one (ps_ret (pv 7))))))))
theorem ok_gives {f : Addr} {fd : FuncData} (F : Fun K "gives" "gives" s_gives f fd) (T : Fx K mg A) (D_all_given : DefOk P w K mg base (L2.CX P w) 7 "all_given" ["program", "record"] (sp_all_given K A)) (D_joined : DefOk P w K mg base CX0 1 "joined" ["givens"] (sp_joined K A))
    (pure : ∀ vs H Q E, sp_gives K A vs H Q E → t_gives K A E { nx := fun _ H' => Q .non H', rt := Q } (start ["program", "record", "wanted"] vs) H) :
    FnOk P w K mg base CX0 8 f fd ["program", "record", "wanted"] (sp_gives K A) := by
  refine F.ok sc_gives (fun vs H Q E h => h.1) (fun cdv A' outer s H vs Q E hr h => ⟨t_gives K A E, ?_, pure vs H Q E h⟩)
  exact (pss_one (ps_try_mix (tb := (fun WW => (tRet (tOp (L2.rEqD K) (tDef (sp_joined K A) E0 (tCons (tDefS (sp_all_given K A) (WE WW) (tCons (tVar 0) (tCons (tVar 1) tNil))) tNil)) (tVar 2))))) (l := [⟨(.one (.ref A.c_NoOutput)), none, (fun ea ecls ed => (tRet (tC (.bl false))))⟩]) (Wout := (fun _ _ _ _ => False)) rfl rfl sc_gives.nd takes0 (fun WW pn xe tk po => (pss_one (ps_ret (pe_cmpR (op_eqD hr.units) (pe_def D_joined (hr.mono (by decide)) pass0 (pa_cons (pe_defS D_all_given (hr.mono (by decide)) (fun σ => passAt tk σ) (pa_cons (pv 0) (pa_cons (pv 1) pa_nil))) pa_nil)) (pv 2) (nomark _))))) (HdsM.no (ts := (fun ea ecls ed => (tRet (tC (.bl false))))) (TstOk.one ⟨rfl, by decide, Or.inl T.e_NoOutput⟩) (fun ea oe ecls ed pn hz hf => (pss_one (ps_ret pe_bl))) HdsM.nil)))
theorem ok_led_back {f : Addr} {fd : FuncData} (F : Fun K "led_back" "led_back" s_led_back f fd) (T : Fx K mg A) (D_err_NoSuchPlace : PErr K mg A.c_NoSuchPlace "NoSuchPlace") (D_need_text : DefOk P w K mg base (L2.CX P w) 2 "need_text" ["text"] (sp_need_text K A)) (D_holders : DefOk P w K mg base CX0 1 "holders" ["shown", "edit"] (sp_holders K A)) (D_err_NoPart : PErr K mg A.c_NoPart "NoPart") (D_narrowed : DefOk P w K mg base CX0 3 "narrowed" ["output", "edit"] (sp_narrowed K A)) (D_changed_record : DefOk P w K mg base CX0 1 "changed_record" ["record", "given", "begin", "edit"] (sp_changed_record K A)) (D_is_record : DefOk P w K mg base CX0 3 "is_record" ["texts"] (sp_is_record K A)) (D_gives : DefOk P w K mg base CX0 8 "gives" ["program", "record", "wanted"] (sp_gives K A)) (D_err_NotLedBack : PErr K mg A.c_NotLedBack "NotLedBack")
    (pure : ∀ vs H Q E, sp_led_back K A vs H Q E → t_led_back K A E { nx := fun _ H' => Q .non H', rt := Q } (start ["shown", "edit", "output", "parts", "wanted", "narrow", "given", "begin", "record"] vs) H) :
    FnOk P w K mg base (L2.CX P w) 9 f fd ["shown", "edit"] (sp_led_back K A) := by
  refine F.okX sc_led_back (fun vs H Q E h => h.1) (fun cdv A' outer s H vs Q E hr h => ⟨t_led_back K A E, ?_, pure vs H Q E h⟩)
  exact (pss_cons (ps_set (i := 2) sc_led_back.nd rfl (Or.inl rfl) (pe_fld (pv 0) rfl)) (pss_cons (ps_if (pt_not (pt_chain3 op_le op_le op_le pe_int (pe_fld (pv 1) rfl) (pe_fld (pv 1) rfl) (pe_callB c_len (by rfl) T.b_len PySem.boot_len (pa_cons (pv 2) pa_nil)))) (pss_one (ps_err0 D_err_NoSuchPlace rfl (takes_of rfl rfl rfl rfl))) pss_nil) (pss_cons (ps_expr (pe_def D_need_text (hr.mono (by decide)) (passes_call (takes_of rfl rfl rfl rfl) (fun _ _ _ _ h => h)) (pa_cons (pe_fld (pv 1) rfl) pa_nil))) (pss_cons (ps_set (i := 3) sc_led_back.nd rfl (Or.inl rfl) (pe_def D_holders (hr.mono (by decide)) pass0 (pa_cons (pv 0) (pa_cons (pv 1) pa_nil)))) (pss_cons (ps_if (pt_cmpR op_eq (pe_callB c_len (by rfl) T.b_len PySem.boot_len (pa_cons (pv 3) pa_nil)) pe_int (nomark _)) (pss_one (ps_err0 D_err_NoPart rfl (takes_of rfl rfl rfl rfl))) pss_nil) (pss_cons (ps_set (i := 4) sc_led_back.nd rfl (Or.inl rfl) (pe_op op_cat (pe_op op_cat (pe_slice sl_list (pv 2) po_none (po_some (pe_fld (pv 1) rfl))) (pe_fld (pv 1) rfl)) (pe_slice sl_list (pv 2) (po_some (pe_fld (pv 1) rfl)) po_none))) (pss_cons (ps_set (i := 5) sc_led_back.nd rfl (Or.inl rfl) (pe_def D_narrowed (hr.mono (by decide)) pass0 (pa_cons (pv 2) (pa_cons (pv 1) pa_nil)))) (pss_cons (ps_for (passes_of rfl) rfl (pi_list (pv 3)) (pg_tup (by rfl) (pgs_cons (pg_name (i := 6) sc_led_back.nd rfl (Or.inl rfl)) (pgs_cons (pg_name (i := 7) sc_led_back.nd rfl (Or.inl rfl)) pgs_nil))) (pss_cons (ps_set (i := 8) sc_led_back.nd rfl (Or.inl rfl) (pe_def D_changed_record (hr.mono (by decide)) pass0 (pa_cons (pe_fld (pv 0) rfl) (pa_cons (pv 6) (pa_cons (pv 7) (pa_cons (pv 5) pa_nil)))))) (pss_one (ps_if (PW.pt (pw_and (pt_val (pe_def D_is_record (hr.mono (by decide)) pass0 (pa_cons (pv 8) pa_nil))) (pw_and1 (pt_val (pe_def D_gives (hr.mono (by decide)) pass0 (pa_cons (pe_fld (pv 0) rfl) (pa_cons (pv 8) (pa_cons (pv 4) pa_nil)))))))) (pss_one (ps_ret (pv 8))) pss_nil)))) (pss_one (ps_err0 D_err_NotLedBack rfl (takes_of rfl rfl rfl rfl)))))))))))
theorem ok_is_led_back {f : Addr} {fd : FuncData} (F : Fun K "is_led_back" "is_led_back" s_is_led_back f fd) (T : Fx K mg A) (D_led_back : DefOk P w K mg base (L2.CX P w) 9 "led_back" ["shown", "edit"] (sp_led_back K A))
    (pure : ∀ vs H Q E, sp_is_led_back K A vs H Q E → t_is_led_back K A E { nx := fun _ H' => Q .non H', rt := Q } (start ["shown", "edit"] vs) H) :
    FnOk P w K mg base (L2.CX P w) 10 f fd ["shown", "edit"] (sp_is_led_back K A) := by
  refine F.okX sc_is_led_back (fun vs H Q E h => h.1) (fun cdv A' outer s H vs Q E hr h => ⟨t_is_led_back K A E, ?_, pure vs H Q E h⟩)
  exact (pss_cons (ps_try_mix (tb := (fun WW => (tDrop (tDefS (sp_led_back K A) (WE WW) (tCons (tVar 0) (tCons (tVar 1) tNil)))))) (l := [⟨(.two (.ref A.c_NoPart) (.ref A.c_NotLedBack)), none, (fun ea ecls ed => (tRet (tC (.bl false))))⟩]) (Wout := (fun ecls ed _ H => E ecls ed H)) rfl rfl sc_is_led_back.nd (takes_of rfl rfl rfl rfl) (fun WW pn xe tk po => (pss_one (ps_expr (pe_defS D_led_back (hr.mono (by decide)) (fun σ => passAt tk σ) (pa_cons (pv 0) (pa_cons (pv 1) pa_nil)))))) (HdsM.no (ts := (fun ea ecls ed => (tRet (tC (.bl false))))) (TstOk.two ⟨rfl, by decide, Or.inl T.e_NoPart⟩ ⟨rfl, by decide, Or.inl T.e_NotLedBack⟩) (fun ea oe ecls ed pn hz hf => (pss_one (ps_ret pe_bl))) HdsM.nil)) (pss_one (ps_ret pe_bl)))
theorem ok_whole_edit {f : Addr} {fd : FuncData} (F : Fun K "whole_edit" "whole_edit" s_whole_edit f fd) (T : Fx K mg A) (D_new_Edit : MakeOk P w K mg base 1 A.c_Edit "Edit" 3 fo_Edit) (D_narrowed : DefOk P w K mg base CX0 3 "narrowed" ["output", "edit"] (sp_narrowed K A))
    (pure : ∀ vs H Q E, sp_whole_edit K A vs H Q E → t_whole_edit K A E { nx := fun _ H' => Q .non H', rt := Q } (start ["shown", "text"] vs) H) :
    FnOk P w K mg base CX0 4 f fd ["shown", "text"] (sp_whole_edit K A) := by
  refine F.ok sc_whole_edit (fun vs H Q E h => h.1) (fun cdv A' outer s H vs Q E hr h => ⟨t_whole_edit K A E, ?_, pure vs H Q E h⟩)
  exact (pss_one (ps_ret (pe_def D_narrowed (hr.mono (by decide)) pass0 (pa_cons (pe_fld (pv 0) rfl) (pa_cons (pe_new D_new_Edit (hr.mono (by decide)) (pa_cons pe_int (pa_cons (pe_callB c_len (by rfl) T.b_len PySem.boot_len (pa_cons (pe_fld (pv 0) rfl) pa_nil)) (pa_cons (pv 1) pa_nil)))) pa_nil)))))
theorem ok_free_bytes {f : Addr} {fd : FuncData} (F : Fun K "free_bytes" "free_bytes" s_free_bytes f fd) (T : Fx K mg A) (D_new_Edit : MakeOk P w K mg base 1 A.c_Edit "Edit" 3 fo_Edit) (D_is_led_back : DefOk P w K mg base (L2.CX P w) 10 "is_led_back" ["shown", "edit"] (sp_is_led_back K A))
    (pure : ∀ vs H Q E, sp_free_bytes K A vs H Q E → t_free_bytes K A E { nx := fun _ H' => Q .non H', rt := Q } (start ["shown", "place", "found", "byte"] vs) H) :
    FnOk P w K mg base (L2.CX P w) 11 f fd ["shown", "place"] (sp_free_bytes K A) := by
  refine F.okX sc_free_bytes (fun vs H Q E h => h.1) (fun cdv A' outer s H vs Q E hr h => ⟨t_free_bytes K A E, ?_, pure vs H Q E h⟩)
  exact (pss_cons (ps_set (i := 2) sc_free_bytes.nd rfl (Or.inl rfl) (pe_lst pa_nil)) (pss_cons (ps_for (passes_of rfl) rfl (pi_range2 rfl T.b_range (pa_cons (pe_globI T.m_LOWEST_BYTE) (pa_cons (pe_op op_add (pe_globI T.m_HIGHEST_BYTE) pe_int) pa_nil))) (pg_name (i := 3) sc_free_bytes.nd rfl (Or.inl rfl)) (pss_one (ps_if (pt_val (pe_def D_is_led_back (hr.mono (by decide)) (passes_call (takes_of rfl rfl rfl rfl) (fun _ _ _ _ h => h)) (pa_cons (pv 0) (pa_cons (pe_new D_new_Edit (hr.mono (by decide)) (pa_cons (pv 1) (pa_cons (pe_op op_add (pv 1) pe_int) (pa_cons (pe_lst (pa_cons (pv 3) pa_nil)) pa_nil)))) pa_nil)))) (pss_one (ps_expr (pe_bm PySem.F.plainAttrs_list PySem.F.slot_list_append PySem.F.type_list_append mt_append (pv 2) (pa_cons (pv 3) pa_nil)))) pss_nil))) (pss_one (ps_ret (pv 2)))))
theorem ok_Shown_init {f : Addr} {fd : FuncData} (F : Fun K "__init__" "Shown.__init__" s_Shown_init f fd) (T : Fx K mg A) (D_all_given : DefOk P w K mg base (L2.CX P w) 7 "all_given" ["program", "record"] (sp_all_given K A)) (D_joined : DefOk P w K mg base CX0 1 "joined" ["givens"] (sp_joined K A))
    (pure : ∀ vs H Q E, sp_Shown_init K A vs H Q E → t_Shown_init K A E { nx := fun _ H' => Q .non H', rt := Q } (start ["self", "program", "record"] vs) H) :
    FnOk P w K mg base (L2.CX P w) 8 f fd ["self", "program", "record"] (sp_Shown_init K A) := by
  refine F.okX sc_Shown_init (fun vs H Q E h => h.1) (fun cdv A' outer s H vs Q E hr h => ⟨t_Shown_init K A E, ?_, pure vs H Q E h⟩)
  exact (pss_cons (ps_fld (pv 0) (pv 1) rfl) (pss_cons (ps_fld (pv 0) (pv 2) rfl) (pss_cons (ps_fld (pv 0) (pe_def D_all_given (hr.mono (by decide)) (passes_call (takes_of rfl rfl rfl rfl) (fun _ _ _ _ h => h)) (pa_cons (pv 1) (pa_cons (pv 2) pa_nil))) rfl) (pss_one (ps_fld (pv 0) (pe_def D_joined (hr.mono (by decide)) pass0 (pa_cons (pe_fld (pv 0) rfl) pa_nil)) rfl)))))
theorem ok_edited_record {f : Addr} {fd : FuncData} (F : Fun K "edited_record" "edited_record" s_edited_record f fd) (T : Fx K mg A) (D_new_Edit : MakeOk P w K mg base 1 A.c_Edit "Edit" 3 fo_Edit) (D_mx_Shown : MkX P w K mg base (L2.CX P w) 8 A.c_Shown "Shown" ["self", "program", "record"] (sp_Shown_init K A)) (D_led_back : DefOk P w K mg base (L2.CX P w) 9 "led_back" ["shown", "edit"] (sp_led_back K A))
    (pure : ∀ vs H Q E, sp_edited_record K A vs H Q E → t_edited_record K A E { nx := fun _ H' => Q .non H', rt := Q } (start ["desk", "call", "edit"] vs) H) :
    FnOk P w K mg base (L2.CX P w) 10 f fd ["desk", "call"] (sp_edited_record K A) := by
  refine F.okX sc_edited_record (fun vs H Q E h => h.1) (fun cdv A' outer s H vs Q E hr h => ⟨t_edited_record K A E, ?_, pure vs H Q E h⟩)
  exact (pss_cons (ps_set (i := 2) sc_edited_record.nd rfl (Or.inl rfl) (pe_new D_new_Edit (hr.mono (by decide)) (pa_cons (pe_ix ix_list (pe_fld (pv 1) rfl) pe_int (fun _ _ => rfl)) (pa_cons (pe_ix ix_list (pe_fld (pv 1) rfl) pe_int (fun _ _ => rfl)) (pa_cons (pe_fld (pv 1) rfl) pa_nil))))) (pss_one (ps_ret (pe_def D_led_back (hr.mono (by decide)) (passes_call (takes_of rfl rfl rfl rfl) (fun _ _ _ _ h => h)) (pa_cons (pe_mkX D_mx_Shown (hr.mono (by decide)) (passes_call (takes_of rfl rfl rfl rfl) (fun _ _ _ _ h => h)) (pa_cons (pe_fld (pv 0) rfl) (pa_cons (pe_fld (pv 0) rfl) pa_nil))) (pa_cons (pv 2) pa_nil))))))
theorem ok_change_record {f : Addr} {fd : FuncData} (F : Fun K "change_record" "change_record" s_change_record f fd) (T : Fx K mg A) 
    (pure : ∀ vs H Q E, sp_change_record K A vs H Q E → t_change_record K A E { nx := fun _ H' => Q .non H', rt := Q } (start ["desk", "record"] vs) H) :
    FnOk P w K mg base CX0 1 f fd ["desk", "record"] (sp_change_record K A) := by
  refine F.ok sc_change_record (fun vs H Q E h => h.1) (fun cdv A' outer s H vs Q E hr h => ⟨t_change_record K A E, ?_, pure vs H Q E h⟩)
  exact (pss_cons (ps_expr (pe_bm PySem.F.plainAttrs_list PySem.F.slot_list_append PySem.F.type_list_append mt_append (pe_fld (pv 0) rfl) (pa_cons (pe_fld (pv 0) rfl) pa_nil))) (pss_cons (ps_if (pt_cmpR op_gt (pe_callB c_len (by rfl) T.b_len PySem.boot_len (pa_cons (pe_fld (pv 0) rfl) pa_nil)) (pe_globI T.m_MOST_PAST) (nomark _)) (pss_one (ps_expr (pe_bm PySem.F.plainAttrs_list PySem.F.slot_list_pop PySem.F.type_list_pop mt_popAt (pe_fld (pv 0) rfl) (pa_cons pe_int pa_nil)))) pss_nil) (pss_one (ps_fld (pv 0) (pv 1) rfl))))
theorem ok_answer_program {f : Addr} {fd : FuncData} (F : Fun K "answer_program" "answer_program" s_answer_program f fd) (T : Fx K mg A) (D_read_program : DefOk P w K mg base (L2.CX P w) 9 "read_program" ["text"] (sp_read_program K A))
    (pure : ∀ vs H Q E, sp_answer_program K A vs H Q E → t_answer_program K A E { nx := fun _ H' => Q .non H', rt := Q } (start ["desk", "call", "program", "fault"] vs) H) :
    FnOk P w K mg base (L2.CX P w) 10 f fd ["desk", "call"] (sp_answer_program K A) := by
  refine F.okX sc_answer_program (fun vs H Q E h => h.1) (fun cdv A' outer s H vs Q E hr h => ⟨t_answer_program K A E, ?_, pure vs H Q E h⟩)
  obtain ⟨fI_Fault, X_Fault⟩ := T.ex_Fault
  exact (pss_cons (ps_if (pt_cmpR op_gt (pe_callB c_len (by rfl) T.b_len PySem.boot_len (pa_cons (pe_fld (pv 1) rfl) pa_nil)) (pe_globI T.m_LONGEST_PROGRAM) (nomark _)) (pss_one (ps_ret (pe_lst (pa_cons (pe_un un_neg pe_int) pa_nil)))) pss_nil) (pss_cons (ps_try_as (i := 3) (tb := (fun WW => (tAsg (tDefS (sp_read_program K A) (WE WW) (tCons (tFld K (tVar 1) "row") tNil)) (gName 2)))) (ts := (fun ea ecls ed => (tRet (tLst (tCons (tErrF A.c_Fault "kind" ea ecls ed (tVar 3)) (tCons (tErrF A.c_Fault "place" ea ecls ed (tVar 3)) tNil)))))) (Wout := fun _ _ _ _ => False) rfl rfl sc_answer_program.nd rfl rfl ⟨rfl, by decide, Or.inl T.e_Fault⟩ takes0 (fun WW pn xe tk po => (pss_one (ps_set (i := 2) sc_answer_program.nd rfl (Or.inl rfl) (pe_defS D_read_program (hr.mono (by decide)) (fun σ => passAt tk σ) (pa_cons (pe_fld (pv 1) rfl) pa_nil))))) (fun ea oe ecls ed pn hz hf => (pss_one (ps_ret (pe_lst (pa_cons (pe_errF X_Fault T.nf_Fault_kind hz hf (pv 3)) (pa_cons (pe_errF X_Fault T.nf_Fault_place hz hf (pv 3)) pa_nil))))))) (pss_cons (ps_fld (pv 0) (pv 2) rfl) (pss_cons (ps_fld (pv 0) (pe_lst pa_nil) rfl) (pss_one (ps_ret (pe_lst (pa_cons pe_int pa_nil))))))))
theorem ok_answer_record {f : Addr} {fd : FuncData} (F : Fun K "answer_record" "answer_record" s_answer_record f fd) (T : Fx K mg A) (D_split_texts : DefOk P w K mg base CX0 1 "split_texts" ["numbers"] (sp_split_texts K A)) (D_is_record : DefOk P w K mg base CX0 3 "is_record" ["texts"] (sp_is_record K A))
    (pure : ∀ vs H Q E, sp_answer_record K A vs H Q E → t_answer_record K A E { nx := fun _ H' => Q .non H', rt := Q } (start ["desk", "call", "record"] vs) H) :
    FnOk P w K mg base (L2.CX P w) 4 f fd ["desk", "call"] (sp_answer_record K A) := by
  refine F.okX sc_answer_record (fun vs H Q E h => h.1) (fun cdv A' outer s H vs Q E hr h => ⟨t_answer_record K A E, ?_, pure vs H Q E h⟩)
  exact (pss_cons (ps_set (i := 2) sc_answer_record.nd rfl (Or.inl rfl) (pe_def D_split_texts (hr.mono (by decide)) pass0 (pa_cons (pe_fld (pv 1) rfl) pa_nil))) (pss_cons (ps_if (pt_not (pt_val (pe_def D_is_record (hr.mono (by decide)) pass0 (pa_cons (pv 2) pa_nil)))) (pss_one (ps_ret (pe_lst (pa_cons (pe_un un_neg pe_int) pa_nil)))) pss_nil) (pss_cons (ps_fld (pv 0) (pv 2) rfl) (pss_cons (ps_fld (pv 0) (pe_lst pa_nil) rfl) (pss_one (ps_ret (pe_lst (pa_cons pe_int pa_nil))))))))
theorem ok_answer_output {f : Addr} {fd : FuncData} (F : Fun K "answer_output" "answer_output" s_answer_output f fd) (T : Fx K mg A) (D_all_given : DefOk P w K mg base (L2.CX P w) 7 "all_given" ["program", "record"] (sp_all_given K A)) (D_joined : DefOk P w K mg base CX0 1 "joined" ["givens"] (sp_joined K A))
    (pure : ∀ vs H Q E, sp_answer_output K A vs H Q E → t_answer_output K A E { nx := fun _ H' => Q .non H', rt := Q } (start ["desk", "call"] vs) H) :
    FnOk P w K mg base (L2.CX P w) 8 f fd ["desk", "call"] (sp_answer_output K A) := by
  refine F.okX sc_answer_output (fun vs H Q E h => h.1) (fun cdv A' outer s H vs Q E hr h => ⟨t_answer_output K A E, ?_, pure vs H Q E h⟩)
  exact (pss_one (ps_ret (pe_op op_cat (pe_lst (pa_cons pe_int pa_nil)) (pe_def D_joined (hr.mono (by decide)) pass0 (pa_cons (pe_def D_all_given (hr.mono (by decide)) (passes_call (takes_of rfl rfl rfl rfl) (fun _ _ _ _ h => h)) (pa_cons (pe_fld (pv 0) rfl) (pa_cons (pe_fld (pv 0) rfl) pa_nil))) pa_nil)))))
theorem ok_answer_fields {f : Addr} {fd : FuncData} (F : Fun K "answer_fields" "answer_fields" s_answer_fields f fd) (T : Fx K mg A) (D_told_record : DefOk P w K mg base CX0 1 "told_record" ["record"] (sp_told_record K A))
    (pure : ∀ vs H Q E, sp_answer_fields K A vs H Q E → t_answer_fields K A E { nx := fun _ H' => Q .non H', rt := Q } (start ["desk", "call"] vs) H) :
    FnOk P w K mg base (L2.CX P w) 2 f fd ["desk", "call"] (sp_answer_fields K A) := by
  refine F.okX sc_answer_fields (fun vs H Q E h => h.1) (fun cdv A' outer s H vs Q E hr h => ⟨t_answer_fields K A E, ?_, pure vs H Q E h⟩)
  exact (pss_one (ps_ret (pe_def D_told_record (hr.mono (by decide)) pass0 (pa_cons (pe_fld (pv 0) rfl) pa_nil))))
theorem ok_answer_sources {f : Addr} {fd : FuncData} (F : Fun K "answer_sources" "answer_sources" s_answer_sources f fd) (T : Fx K mg A) (D_Given_source : MethOk P w K mg base CX0 1 A.c_Given "source" ["self", "k"] (sp_Given_source K A)) (D_all_given : DefOk P w K mg base (L2.CX P w) 7 "all_given" ["program", "record"] (sp_all_given K A))
    (pure : ∀ vs H Q E, sp_answer_sources K A vs H Q E → t_answer_sources K A E { nx := fun _ H' => Q .non H', rt := Q } (start ["desk", "call", "answered", "given", "k"] vs) H) :
    FnOk P w K mg base (L2.CX P w) 8 f fd ["desk", "call"] (sp_answer_sources K A) := by
  refine F.okX sc_answer_sources (fun vs H Q E h => h.1) (fun cdv A' outer s H vs Q E hr h => ⟨t_answer_sources K A E, ?_, pure vs H Q E h⟩)
  exact (pss_cons (ps_set (i := 2) sc_answer_sources.nd rfl (Or.inl rfl) (pe_lst (pa_cons pe_int pa_nil))) (pss_cons (ps_for (passes_of rfl) rfl (pi_list (pe_def D_all_given (hr.mono (by decide)) (passes_call (takes_of rfl rfl rfl rfl) (fun _ _ _ _ h => h)) (pa_cons (pe_fld (pv 0) rfl) (pa_cons (pe_fld (pv 0) rfl) pa_nil)))) (pg_name (i := 3) sc_answer_sources.nd rfl (Or.inl rfl)) (pss_one (ps_for (passes_of rfl) rfl (pi_range1 rfl T.b_range (pa_cons (pe_callB c_len (by rfl) T.b_len PySem.boot_len (pa_cons (pe_fld (pv 3) rfl) pa_nil)) pa_nil)) (pg_name (i := 4) sc_answer_sources.nd rfl (Or.inl rfl)) (pss_one (ps_expr (pe_bm PySem.F.plainAttrs_list PySem.F.slot_list_extend PySem.F.type_list_extend mt_extend (pv 2) (pa_cons (pe_met D_Given_source (hr.mono (by decide)) pass0 (pv 3) (pa_cons (pv 4) pa_nil)) pa_nil))))))) (pss_one (ps_ret (pv 2)))))
theorem ok_answer_piece {f : Addr} {fd : FuncData} (F : Fun K "answer_piece" "answer_piece" s_answer_piece f fd) (T : Fx K mg A) (D_all_given : DefOk P w K mg base (L2.CX P w) 7 "all_given" ["program", "record"] (sp_all_given K A))
    (pure : ∀ vs H Q E, sp_answer_piece K A vs H Q E → t_answer_piece K A E { nx := fun _ H' => Q .non H', rt := Q } (start ["desk", "call", "before", "givens", "number", "given"] vs) H) :
    FnOk P w K mg base (L2.CX P w) 8 f fd ["desk", "call"] (sp_answer_piece K A) := by
  refine F.okX sc_answer_piece (fun vs H Q E h => h.1) (fun cdv A' outer s H vs Q E hr h => ⟨t_answer_piece K A E, ?_, pure vs H Q E h⟩)
  exact (pss_cons (ps_set (i := 2) sc_answer_piece.nd rfl (Or.inl rfl) (pe_ix ix_list (pe_fld (pv 1) rfl) pe_int (fun _ _ => rfl))) (pss_cons (ps_set (i := 3) sc_answer_piece.nd rfl (Or.inl rfl) (pe_def D_all_given (hr.mono (by decide)) (passes_call (takes_of rfl rfl rfl rfl) (fun _ _ _ _ h => h)) (pa_cons (pe_fld (pv 0) rfl) (pa_cons (pe_fld (pv 0) rfl) pa_nil)))) (pss_cons (ps_if (pt_cmpR op_lt (pv 2) pe_int (nomark _)) (pss_one (ps_ret (pe_lst (pa_cons (pe_un un_neg pe_int) pa_nil)))) pss_nil) (pss_cons (ps_for (passes_of rfl) rfl (pi_enum rfl T.b_enumerate (pa_cons (pv 3) pa_nil)) (pg_tup (by rfl) (pgs_cons (pg_name (i := 4) sc_answer_piece.nd rfl (Or.inl rfl)) (pgs_cons (pg_name (i := 5) sc_answer_piece.nd rfl (Or.inl rfl)) pgs_nil))) (pss_cons (ps_if (pt_cmpR op_lt (pv 2) (pe_callB c_len (by rfl) T.b_len PySem.boot_len (pa_cons (pe_fld (pv 5) rfl) pa_nil)) (nomark _)) (pss_one (ps_ret (pe_lst (pa_cons pe_int (pa_cons (pv 4) (pa_cons (pv 2) pa_nil)))))) pss_nil) (pss_one (ps_aug (i := 2) sc_answer_piece.nd rfl (Or.inl rfl) (pe_callB c_len (by rfl) T.b_len PySem.boot_len (pa_cons (pe_fld (pv 5) rfl) pa_nil)) ip_sub)))) (pss_one (ps_ret (pe_lst (pa_cons (pe_un un_neg pe_int) pa_nil))))))))
theorem ok_answer_spread {f : Addr} {fd : FuncData} (F : Fun K "answer_spread" "answer_spread" s_answer_spread f fd) (T : Fx K mg A) (D_all_given : DefOk P w K mg base (L2.CX P w) 7 "all_given" ["program", "record"] (sp_all_given K A)) (D_Given_source : MethOk P w K mg base CX0 1 A.c_Given "source" ["self", "k"] (sp_Given_source K A))
    (pure : ∀ vs H Q E, sp_answer_spread K A vs H Q E → t_answer_spread K A E { nx := fun _ H' => Q .non H', rt := Q } (start ["desk", "call", "field", "place", "givens", "sources", "given", "number", "source", "k"] vs) H) :
    FnOk P w K mg base (L2.CX P w) 8 f fd ["desk", "call"] (sp_answer_spread K A) := by
  refine F.okX sc_answer_spread (fun vs H Q E h => h.1) (fun cdv A' outer s H vs Q E hr h => ⟨t_answer_spread K A E, ?_, pure vs H Q E h⟩)
  exact (pss_cons (ps_set (i := 2) sc_answer_spread.nd rfl (Or.inr rfl) (pe_ix ix_list (pe_fld (pv 1) rfl) pe_int (fun _ _ => rfl))) (pss_cons (ps_set (i := 3) sc_answer_spread.nd rfl (Or.inr rfl) (pe_ix ix_list (pe_fld (pv 1) rfl) pe_int (fun _ _ => rfl))) (pss_cons (ps_set (i := 4) sc_answer_spread.nd rfl (Or.inl rfl) (pe_def D_all_given (hr.mono (by decide)) (passes_call (takes_of rfl rfl rfl rfl) (fun _ _ _ _ h => h)) (pa_cons (pe_fld (pv 0) rfl) (pa_cons (pe_fld (pv 0) rfl) pa_nil)))) (pss_cons (ps_if (PW.pt (pw_or (pt_cmpR op_lt (pv 2) pe_int (nomark _)) (pw_or1 (pt_cmpR op_gt (pv 2) (pe_callB c_len (by rfl) T.b_len PySem.boot_len (pa_cons (pe_fld (pv 0) rfl) pa_nil)) (nomark _))))) (pss_one (ps_ret (pe_lst (pa_cons (pe_un un_neg pe_int) pa_nil)))) pss_nil) (pss_cons (ps_if (PW.pt (pw_or (pt_cmpR op_lt (pv 3) pe_int (nomark _)) (pw_or1 (pt_cmpR op_ge (pv 3) (pe_callB c_len (by rfl) T.b_len PySem.boot_len (pa_cons (pe_ix ix_list (pe_fld (pv 0) rfl) (pe_op op_sub (pv 2) pe_int) (fun _ _ => rfl)) pa_nil)) (nomark _))))) (pss_one (ps_ret (pe_lst (pa_cons (pe_un un_neg pe_int) pa_nil)))) pss_nil) (pss_cons (ps_set (i := 5) sc_answer_spread.nd rfl (Or.inl rfl) (pe_lst pa_nil)) (pss_cons (ps_for (passes_of rfl) rfl (pi_list (pv 4)) (pg_name (i := 6) sc_answer_spread.nd rfl (Or.inr rfl)) (pss_one (ps_expr (pe_bm PySem.F.plainAttrs_list PySem.F.slot_list_extend PySem.F.type_list_extend mt_extend (pv 5) (pa_cons (pe_lc (own := [("k", 9)]) (g := (gName 9)) (tt := tYes) rfl sc_answer_spread.nd (pi_range1 rfl T.b_range (pa_cons (pe_callB c_len (by rfl) T.b_len PySem.boot_len (pa_cons (pe_fld (pv 6) rfl) pa_nil)) pa_nil)) (blkOk_by (N := ["desk", "call", "field", "place", "givens", "sources", "given", "number", "source", "k"]) (sc := defScope s_answer_spread) (by decide +kernel)) (fun _ _ _ _ _ => (pg_name (i := 9) sc_answer_spread.nd rfl (Or.inl rfl))) (fun _ _ _ _ _ => pts_nil) (fun _ _ _ _ _ => (pe_met D_Given_source (hr.mono (by decide)) pass0 (pv 6) (pa_cons (pv 9) pa_nil)))) pa_nil))))) (pss_one (ps_ret (pe_op op_cat (pe_lst (pa_cons pe_int pa_nil)) (pe_lc (own := [("number", 7), ("source", 8)]) (g := (gTup K 2 (gCons (gName 7) (gCons (gName 8) gNil)))) (tt := (tTest (tOp (L2.rEqD K) (tVar 8) (tLst (tCons (tVar 2) (tCons (tVar 3) tNil)))))) rfl sc_answer_spread.nd (pi_enum rfl T.b_enumerate (pa_cons (pv 5) pa_nil)) (blkOk_by (N := ["desk", "call", "field", "place", "givens", "sources", "given", "number", "source", "k"]) (sc := defScope s_answer_spread) (by decide +kernel)) (fun _ _ _ _ _ => (pg_tup (by rfl) (pgs_cons (pg_name (i := 7) sc_answer_spread.nd rfl (Or.inl rfl)) (pgs_cons (pg_name (i := 8) sc_answer_spread.nd rfl (Or.inl rfl)) pgs_nil)))) (fun _ _ _ _ _ => (pts_one (pt_cmpR (op_eqD hr.units) (pv 8) (pe_lst (pa_cons (pv 2) (pa_cons (pv 3) pa_nil))) (nomark _)))) (fun _ _ _ _ _ => (pv 7)))))))))))))
theorem ok_answer_could {f : Addr} {fd : FuncData} (F : Fun K "answer_could" "answer_could" s_answer_could f fd) (T : Fx K mg A) (D_edited_record : DefOk P w K mg base (L2.CX P w) 10 "edited_record" ["desk", "call"] (sp_edited_record K A)) (D_told_record : DefOk P w K mg base CX0 1 "told_record" ["record"] (sp_told_record K A))
    (pure : ∀ vs H Q E, sp_answer_could K A vs H Q E → t_answer_could K A E { nx := fun _ H' => Q .non H', rt := Q } (start ["desk", "call"] vs) H) :
    FnOk P w K mg base (L2.CX P w) 11 f fd ["desk", "call"] (sp_answer_could K A) := by
  refine F.okX sc_answer_could (fun vs H Q E h => h.1) (fun cdv A' outer s H vs Q E hr h => ⟨t_answer_could K A E, ?_, pure vs H Q E h⟩)
  exact (pss_one (ps_ret (pe_op op_cat (pe_lst (pa_cons pe_int pa_nil)) (pe_def D_told_record (hr.mono (by decide)) pass0 (pa_cons (pe_def D_edited_record (hr.mono (by decide)) (passes_call (takes_of rfl rfl rfl rfl) (fun _ _ _ _ h => h)) (pa_cons (pv 0) (pa_cons (pv 1) pa_nil))) pa_nil)))))
theorem ok_answer_edit {f : Addr} {fd : FuncData} (F : Fun K "answer_edit" "answer_edit" s_answer_edit f fd) (T : Fx K mg A) (D_edited_record : DefOk P w K mg base (L2.CX P w) 10 "edited_record" ["desk", "call"] (sp_edited_record K A)) (D_change_record : DefOk P w K mg base CX0 1 "change_record" ["desk", "record"] (sp_change_record K A))
    (pure : ∀ vs H Q E, sp_answer_edit K A vs H Q E → t_answer_edit K A E { nx := fun _ H' => Q .non H', rt := Q } (start ["desk", "call"] vs) H) :
    FnOk P w K mg base (L2.CX P w) 11 f fd ["desk", "call"] (sp_answer_edit K A) := by
  refine F.okX sc_answer_edit (fun vs H Q E h => h.1) (fun cdv A' outer s H vs Q E hr h => ⟨t_answer_edit K A E, ?_, pure vs H Q E h⟩)
  exact (pss_cons (ps_expr (pe_def D_change_record (hr.mono (by decide)) pass0 (pa_cons (pv 0) (pa_cons (pe_def D_edited_record (hr.mono (by decide)) (passes_call (takes_of rfl rfl rfl rfl) (fun _ _ _ _ h => h)) (pa_cons (pv 0) (pa_cons (pv 1) pa_nil))) pa_nil)))) (pss_one (ps_ret (pe_lst (pa_cons pe_int pa_nil)))))
theorem ok_answer_whole {f : Addr} {fd : FuncData} (F : Fun K "answer_whole" "answer_whole" s_answer_whole f fd) (T : Fx K mg A) (D_need_text : DefOk P w K mg base (L2.CX P w) 2 "need_text" ["text"] (sp_need_text K A)) (D_mx_Shown : MkX P w K mg base (L2.CX P w) 8 A.c_Shown "Shown" ["self", "program", "record"] (sp_Shown_init K A)) (D_whole_edit : DefOk P w K mg base CX0 4 "whole_edit" ["shown", "text"] (sp_whole_edit K A)) (D_led_back : DefOk P w K mg base (L2.CX P w) 9 "led_back" ["shown", "edit"] (sp_led_back K A)) (D_change_record : DefOk P w K mg base CX0 1 "change_record" ["desk", "record"] (sp_change_record K A))
    (pure : ∀ vs H Q E, sp_answer_whole K A vs H Q E → t_answer_whole K A E { nx := fun _ H' => Q .non H', rt := Q } (start ["desk", "call", "shown"] vs) H) :
    FnOk P w K mg base (L2.CX P w) 10 f fd ["desk", "call"] (sp_answer_whole K A) := by
  refine F.okX sc_answer_whole (fun vs H Q E h => h.1) (fun cdv A' outer s H vs Q E hr h => ⟨t_answer_whole K A E, ?_, pure vs H Q E h⟩)
  exact (pss_cons (ps_expr (pe_def D_need_text (hr.mono (by decide)) (passes_call (takes_of rfl rfl rfl rfl) (fun _ _ _ _ h => h)) (pa_cons (pe_fld (pv 1) rfl) pa_nil))) (pss_cons (ps_set (i := 2) sc_answer_whole.nd rfl (Or.inl rfl) (pe_mkX D_mx_Shown (hr.mono (by decide)) (passes_call (takes_of rfl rfl rfl rfl) (fun _ _ _ _ h => h)) (pa_cons (pe_fld (pv 0) rfl) (pa_cons (pe_fld (pv 0) rfl) pa_nil)))) (pss_cons (ps_expr (pe_def D_change_record (hr.mono (by decide)) pass0 (pa_cons (pv 0) (pa_cons (pe_def D_led_back (hr.mono (by decide)) (passes_call (takes_of rfl rfl rfl rfl) (fun _ _ _ _ h => h)) (pa_cons (pv 2) (pa_cons (pe_def D_whole_edit (hr.mono (by decide)) pass0 (pa_cons (pv 2) (pa_cons (pe_fld (pv 1) rfl) pa_nil))) pa_nil))) pa_nil)))) (pss_one (ps_ret (pe_lst (pa_cons pe_int pa_nil)))))))
theorem ok_answer_free {f : Addr} {fd : FuncData} (F : Fun K "answer_free" "answer_free" s_answer_free f fd) (T : Fx K mg A) (D_mx_Shown : MkX P w K mg base (L2.CX P w) 8 A.c_Shown "Shown" ["self", "program", "record"] (sp_Shown_init K A)) (D_free_bytes : DefOk P w K mg base (L2.CX P w) 11 "free_bytes" ["shown", "place"] (sp_free_bytes K A))
    (pure : ∀ vs H Q E, sp_answer_free K A vs H Q E → t_answer_free K A E { nx := fun _ H' => Q .non H', rt := Q } (start ["desk", "call"] vs) H) :
    FnOk P w K mg base (L2.CX P w) 12 f fd ["desk", "call"] (sp_answer_free K A) := by
  refine F.okX sc_answer_free (fun vs H Q E h => h.1) (fun cdv A' outer s H vs Q E hr h => ⟨t_answer_free K A E, ?_, pure vs H Q E h⟩)
  exact (pss_one (ps_ret (pe_op op_cat (pe_lst (pa_cons pe_int pa_nil)) (pe_def D_free_bytes (hr.mono (by decide)) (passes_call (takes_of rfl rfl rfl rfl) (fun _ _ _ _ h => h)) (pa_cons (pe_mkX D_mx_Shown (hr.mono (by decide)) (passes_call (takes_of rfl rfl rfl rfl) (fun _ _ _ _ h => h)) (pa_cons (pe_fld (pv 0) rfl) (pa_cons (pe_fld (pv 0) rfl) pa_nil))) (pa_cons (pe_ix ix_list (pe_fld (pv 1) rfl) pe_int (fun _ _ => rfl)) pa_nil))))))
theorem ok_answer_undo {f : Addr} {fd : FuncData} (F : Fun K "answer_undo" "answer_undo" s_answer_undo f fd) (T : Fx K mg A) 
    (pure : ∀ vs H Q E, sp_answer_undo K A vs H Q E → t_answer_undo K A E { nx := fun _ H' => Q .non H', rt := Q } (start ["desk", "call"] vs) H) :
    FnOk P w K mg base (L2.CX P w) 1 f fd ["desk", "call"] (sp_answer_undo K A) := by
  refine F.okX sc_answer_undo (fun vs H Q E h => h.1) (fun cdv A' outer s H vs Q E hr h => ⟨t_answer_undo K A E, ?_, pure vs H Q E h⟩)
  exact (pss_cons (ps_if (pt_cmpR op_eq (pe_callB c_len (by rfl) T.b_len PySem.boot_len (pa_cons (pe_fld (pv 0) rfl) pa_nil)) pe_int (nomark _)) (pss_one (ps_ret (pe_lst (pa_cons (pe_un un_neg pe_int) pa_nil)))) pss_nil) (pss_cons (ps_fld (pv 0) (pe_bm0 PySem.F.plainAttrs_list PySem.F.slot_list_pop PySem.F.type_list_pop mt_pop (pe_fld (pv 0) rfl)) rfl) (pss_one (ps_ret (pe_lst (pa_cons (pe_callB c_len (by rfl) T.b_len PySem.boot_len (pa_cons (pe_fld (pv 0) rfl) pa_nil)) pa_nil))))))
theorem ok_answer_call {f : Addr} {fd : FuncData} (F : Fun K "answer_call" "answer_call" s_answer_call f fd) (T : Fx K mg A) (D_tab_Ans : ∀ f sp, tb_Ans K A f sp → ∃ fd ps, FnOk P w K mg base (L2.CX P w) 12 f fd ps sp ∧ PySem.W.keepIn K (.ref f) = true ∧ Binds K fd ps [])
    (pure : ∀ vs H Q E, sp_answer_call K A vs H Q E → t_answer_call K A E { nx := fun _ H' => Q .non H', rt := Q } (start ["desk", "call", "lack"] vs) H) :
    FnOk P w K mg base CX0 13 f fd ["desk", "call"] (sp_answer_call K A) := by
  refine F.ok sc_answer_call (fun vs H Q E h => h.1) (fun cdv A' outer s H vs Q E hr h => ⟨t_answer_call K A E, ?_, pure vs H Q E h⟩)
  obtain ⟨fI_NoOutput, X_NoOutput⟩ := T.ex_NoOutput
  exact (pss_one (ps_try_mix (tb := (fun WW => (tRet (tCallV (tb_Ans K A) (WE WW) (tDWr K (tC (.ref A.g_ANSWERERS)) (tFld K (tVar 1) "kind")) (tCons (tVar 0) (tCons (tVar 1) tNil)))))) (l := [⟨(.one (.ref A.c_NoOutput)), some 2, (fun ea ecls ed => (tRet (tLst (tCons (tC (.int 1)) (tCons (tErrF A.c_NoOutput "piece" ea ecls ed (tVar 2)) tNil)))))⟩, ⟨(.one (.ref A.c_NoSuchText)), none, (fun ea ecls ed => (tRet (tLst (tCons (tUn (rU fun i => .int (-i)) (tC (.int 1))) tNil))))⟩, ⟨(.one (.ref A.c_NoSuchPlace)), none, (fun ea ecls ed => (tRet (tLst (tCons (tUn (rU fun i => .int (-i)) (tC (.int 2))) tNil))))⟩, ⟨(.one (.ref A.c_NoPart)), none, (fun ea ecls ed => (tRet (tLst (tCons (tUn (rU fun i => .int (-i)) (tC (.int 3))) tNil))))⟩, ⟨(.one (.ref A.c_NotLedBack)), none, (fun ea ecls ed => (tRet (tLst (tCons (tUn (rU fun i => .int (-i)) (tC (.int 9))) tNil))))⟩]) (Wout := (fun _ _ _ _ => False)) rfl rfl sc_answer_call.nd takes0 (fun WW pn xe tk po => (pss_one (ps_ret (pe_callV D_tab_Ans (hr.mono (by decide)) (fun σ => passAt tk σ) (pe_dwr (pe_globR T.m_ANSWERERS) (pe_fld (pv 1) rfl) (fun _ _ => rfl)) (pa_cons (pv 0) (pa_cons (pv 1) pa_nil)))))) (HdsM.nm (i := 2) (ts := (fun ea ecls ed => (tRet (tLst (tCons (tC (.int 1)) (tCons (tErrF A.c_NoOutput "piece" ea ecls ed (tVar 2)) tNil)))))) (TstOk.one ⟨rfl, by decide, Or.inl T.e_NoOutput⟩) rfl rfl (fun ea oe ecls ed pn hz hf => (pss_one (ps_ret (pe_lst (pa_cons pe_int (pa_cons (pe_errF X_NoOutput T.nf_NoOutput_piece hz hf (pv 2)) pa_nil)))))) (HdsM.no (ts := (fun ea ecls ed => (tRet (tLst (tCons (tUn (rU fun i => .int (-i)) (tC (.int 1))) tNil))))) (TstOk.one ⟨rfl, by decide, Or.inl T.e_NoSuchText⟩) (fun ea oe ecls ed pn hz hf => (pss_one (ps_ret (pe_lst (pa_cons (pe_un un_neg pe_int) pa_nil))))) (HdsM.no (ts := (fun ea ecls ed => (tRet (tLst (tCons (tUn (rU fun i => .int (-i)) (tC (.int 2))) tNil))))) (TstOk.one ⟨rfl, by decide, Or.inl T.e_NoSuchPlace⟩) (fun ea oe ecls ed pn hz hf => (pss_one (ps_ret (pe_lst (pa_cons (pe_un un_neg pe_int) pa_nil))))) (HdsM.no (ts := (fun ea ecls ed => (tRet (tLst (tCons (tUn (rU fun i => .int (-i)) (tC (.int 3))) tNil))))) (TstOk.one ⟨rfl, by decide, Or.inl T.e_NoPart⟩) (fun ea oe ecls ed pn hz hf => (pss_one (ps_ret (pe_lst (pa_cons (pe_un un_neg pe_int) pa_nil))))) (HdsM.no (ts := (fun ea ecls ed => (tRet (tLst (tCons (tUn (rU fun i => .int (-i)) (tC (.int 9))) tNil))))) (TstOk.one ⟨rfl, by decide, Or.inl T.e_NotLedBack⟩) (fun ea oe ecls ed pn hz hf => (pss_one (ps_ret (pe_lst (pa_cons (pe_un un_neg pe_int) pa_nil))))) HdsM.nil)))))))
theorem ok_Desk_init {f : Addr} {fd : FuncData} (F : Fun K "__init__" "Desk.__init__" s_Desk_init f fd) (T : Fx K mg A) 
    (pure : ∀ vs H Q E, sp_Desk_init K A vs H Q E → t_Desk_init K A E { nx := fun _ H' => Q .non H', rt := Q } (start ["self"] vs) H) :
    FnOk P w K mg base CX0 1 f fd ["self"] (sp_Desk_init K A) := by
  refine F.ok sc_Desk_init (fun vs H Q E h => h.1) (fun cdv A' outer s H vs Q E hr h => ⟨t_Desk_init K A E, ?_, pure vs H Q E h⟩)
  exact (pss_cons (ps_fld (pv 0) (pe_lst pa_nil) rfl) (pss_cons (ps_fld (pv 0) (pe_lst (pa_cons (pe_lst pa_nil) pa_nil)) rfl) (pss_one (ps_fld (pv 0) (pe_lst pa_nil) rfl))))
theorem ok_answers {f : Addr} {fd : FuncData} (F : Fun K "answers" "answers" s_answers f fd) (T : Fx K mg A) (D_mk_Desk : MkOk P w K mg base 1 A.c_Desk "Desk" ["self"] (sp_Desk_init K A)) (D_answer_call : DefOk P w K mg base CX0 13 "answer_call" ["desk", "call"] (sp_answer_call K A)) (D_split_calls : DefOk P w K mg base CX0 3 "split_calls" ["calls"] (sp_split_calls K A))
    (pure : ∀ vs H Q E, sp_answers K A vs H Q E → t_answers K A E { nx := fun _ H' => Q .non H', rt := Q } (start ["calls", "desk", "found", "call", "answered"] vs) H) :
    FnOk P w K mg base CX0 14 f fd ["calls"] (sp_answers K A) := by
  refine F.ok sc_answers (fun vs H Q E h => h.1) (fun cdv A' outer s H vs Q E hr h => ⟨t_answers K A E, ?_, pure vs H Q E h⟩)
  exact (pss_cons (ps_set (i := 1) sc_answers.nd rfl (Or.inl rfl) (pe_mk0 D_mk_Desk (hr.mono (by decide)))) (pss_cons (ps_set (i := 2) sc_answers.nd rfl (Or.inl rfl) (pe_lst pa_nil)) (pss_cons (ps_for PassesOwn.never rfl (pi_list (pe_def D_split_calls (hr.mono (by decide)) pass0 (pa_cons (pv 0) pa_nil))) (pg_name (i := 3) sc_answers.nd rfl (Or.inl rfl)) (pss_cons (ps_set (i := 4) sc_answers.nd rfl (Or.inl rfl) (pe_def D_answer_call (hr.mono (by decide)) pass0 (pa_cons (pv 1) (pa_cons (pv 3) pa_nil)))) (pss_cons (ps_expr (pe_bm PySem.F.plainAttrs_list PySem.F.slot_list_append PySem.F.type_list_append mt_append (pv 2) (pa_cons (pe_callB c_len (by rfl) T.b_len PySem.boot_len (pa_cons (pv 4) pa_nil)) pa_nil))) (pss_one (ps_expr (pe_bm PySem.F.plainAttrs_list PySem.F.slot_list_extend PySem.F.type_list_extend mt_extend (pv 2) (pa_cons (pv 4) pa_nil))))))) (pss_one (ps_ret (pv 2))))))
end
end Oe
namespace Oe
open PySem PySem.Spec PyProof.Rows L2
open Vaflxa (Cls Case Piece At Res)
local macro_rules | `(tactic| walk_at "lits") => `(tactic| simp only [lit_48, lit_49, lit_52, lit_57, lit_34, lit_38, lit_91, lit_58, lit_93, lit_94, lit_95, lit_126, lit_43, lit_45, lit_124, lit_39, lit_68, lit_76, lit_85, lit_65, lit_78, lit_66, lit_46])
local macro_rules | `(tactic| walk_at "go1") => `(tactic| with_reducible (first
  | refine w_seq ?_ | refine w_next ?_ | refine w_asg ?_ | refine w_name ?_ | refine w_ret ?_ | refine w_retN ?_ | refine w_drop ?_ | refine w_break ?_ | refine w_cont ?_ | refine w_ifS ?_ | refine w_ifT ?_ | refine w_ifF ?_
  | refine w_var rfl ?_ | refine w_c ?_ | refine w_op ?_ | refine w_un ?_ | refine w_I0 ?_ | refine w_U ?_ | refine w_isNo ?_ | refine w_notNo ?_ | refine w_test ?_ | refine w_B ?_ | refine w_bl ?_
  | refine w_and ?_ | refine w_or ?_ | refine w_not ?_ | refine w_andV ?_ | refine w_orV ?_ | refine w_notV ?_ | refine w_ifE ?_ | refine w_chain ?_ | refine w_cb ?_ | refine w_ordS ?_ | refine w_ixB (by assumption) (by assumption) ?_ | refine w_nil ?_ | refine w_cons ?_
  | refine w_len (by assumption) ?_ | refine w_lst ?_ | refine w_tup ?_ | refine w_tru ?_ | refine w_truL (by assumption) ?_ | refine w_fld ?_ | refine w_sfld ?_ | refine w_def ?_ | refine w_met ?_ | refine w_tnew ?_ | refine w_err ?_ | refine w_bm ?_ | refine w_bm0 ?_ | refine w_faug ?_ | refine w_forl ?_ | refine w_fore ?_ | refine w_lcl ?_ | refine w_sl ?_ | refine w_nopart ?_ | refine w_part ?_ | refine w_partI ?_ | refine w_metD ?_ | refine w_fort ?_ | refine w_forr ?_ | refine w_tyL (by assumption) ?_
    | refine g_Call_kind (by assumption) (by assumption) ?_
  | refine p_Call_kind (by assumption) (by assumption) ?_
  | refine g_Call_numbers (by assumption) (by assumption) ?_
  | refine p_Call_numbers (by assumption) (by assumption) ?_
  | refine g_Call_row (by assumption) (by assumption) ?_
  | refine p_Call_row (by assumption) (by assumption) ?_
  | refine g_Given_text (by assumption) (by assumption) ?_
  | refine p_Given_text (by assumption) (by assumption) ?_
  | refine g_Given_field (by assumption) (by assumption) ?_
  | refine p_Given_field (by assumption) (by assumption) ?_
  | refine g_Given_start (by assumption) (by assumption) ?_
  | refine p_Given_start (by assumption) (by assumption) ?_
  | refine g_Constant_text (by assumption) (by assumption) ?_
  | refine p_Constant_text (by assumption) (by assumption) ?_
  | refine g_Part_field (by assumption) (by assumption) ?_
  | refine p_Part_field (by assumption) (by assumption) ?_
  | refine g_Part_first (by assumption) (by assumption) ?_
  | refine p_Part_first (by assumption) (by assumption) ?_
  | refine g_Part_last (by assumption) (by assumption) ?_
  | refine p_Part_last (by assumption) (by assumption) ?_
  | refine g_Part_turn (by assumption) (by assumption) ?_
  | refine p_Part_turn (by assumption) (by assumption) ?_
  | refine g_Edit_start (by assumption) (by assumption) ?_
  | refine p_Edit_start (by assumption) (by assumption) ?_
  | refine g_Edit_end (by assumption) (by assumption) ?_
  | refine p_Edit_end (by assumption) (by assumption) ?_
  | refine g_Edit_text (by assumption) (by assumption) ?_
  | refine p_Edit_text (by assumption) (by assumption) ?_
  | refine g_Shown_program (by assumption) (by assumption) ?_
  | refine p_Shown_program (by assumption) (by assumption) ?_
  | refine g_Shown_record (by assumption) (by assumption) ?_
  | refine p_Shown_record (by assumption) (by assumption) ?_
  | refine g_Shown_givens (by assumption) (by assumption) ?_
  | refine p_Shown_givens (by assumption) (by assumption) ?_
  | refine g_Shown_output (by assumption) (by assumption) ?_
  | refine p_Shown_output (by assumption) (by assumption) ?_
  | refine g_FromStart_distance (by assumption) (by assumption) ?_
  | refine p_FromStart_distance (by assumption) (by assumption) ?_
  | refine g_FromEnd_distance (by assumption) (by assumption) ?_
  | refine p_FromEnd_distance (by assumption) (by assumption) ?_
  | refine g_Border_left (by assumption) (by assumption) ?_
  | refine p_Border_left (by assumption) (by assumption) ?_
  | refine g_Border_right (by assumption) (by assumption) ?_
  | refine p_Border_right (by assumption) (by assumption) ?_
  | refine g_Border_nth (by assumption) (by assumption) ?_
  | refine p_Border_nth (by assumption) (by assumption) ?_
  | refine g_Border_from_right (by assumption) (by assumption) ?_
  | refine p_Border_from_right (by assumption) (by assumption) ?_
  | refine g_Reader_text (by assumption) (by assumption) ?_
  | refine p_Reader_text (by assumption) (by assumption) ?_
  | refine g_Reader_place (by assumption) (by assumption) ?_
  | refine p_Reader_place (by assumption) (by assumption) ?_
  | refine g_Desk_program (by assumption) (by assumption) ?_
  | refine p_Desk_program (by assumption) (by assumption) ?_
  | refine g_Desk_record (by assumption) (by assumption) ?_
  | refine p_Desk_record (by assumption) (by assumption) ?_
  | refine g_Desk_past (by assumption) (by assumption) ?_
  | refine p_Desk_past (by assumption) (by assumption) ?_
  | refine w_own (by assumption) nm_Given_source ?_
  | refine w_own (by assumption) nm_Constant_given_on ?_
  | refine w_own (by assumption) nm_Part_given_on ?_
  | refine w_own (by assumption) nm_FromStart_place_in ?_
  | refine w_own (by assumption) nm_FromEnd_place_in ?_
  | refine w_own (by assumption) nm_Border_place_in ?_
  | refine w_own (by assumption) nm_Reader_stands_within ?_
  | refine w_own (by assumption) nm_Reader_stands ?_
  | refine w_own (by assumption) nm_Reader_skip ?_
  | refine w_own (by assumption) nm_Reader_take ?_
  | refine w_own (by assumption) nm_Reader_need ?_
  | refine w_own (by assumption) nm_Reader_need_end ?_))
local macro_rules | `(tactic| walk_at "go") => `(tactic| repeat walk_at "go1")
section
variable {K : PySem.W.Frag} {mg : Str → Option Value} {A : Ads}
theorem pure_Reader_stands_within (T : Fx K mg A) (vs : List V) (H : Hp) (Q : VK) (E : XK) (h : sp_Reader_stands_within K A vs H Q E) : t_Reader_stands_within K A E { nx := fun _ H' => Q .non H', rt := Q } (start ["self", "low", "high"] vs) H := by
  obtain ⟨_, r, dx, t, bs, p, lo, hi, S, rfl, R, q⟩ := h
  obtain ⟨hr, hS, hn, ht, hp, hl⟩ := R
  have sq : SqL K H t (vBs bs) := SqL.of (hS _ _ ht)
  unfold t_Reader_stands_within
  walk_at "go"
  refine w_if2 (fun h => ?_) (fun h => ?_)
  · have h1 : (p : Int) < ((vBs bs).length : Int) := of_decide_eq_true h
    rw [vBs_length] at h1
    obtain ⟨c, hc⟩ := get_lt (show p < bs.length by omega)
    walk_at "go"
    rw [hc] at q
    refine w_if2 (fun h2 => ?_) (fun h2 => ?_)
    · walk_at "go"
      have e : inR lo hi (some c) = decide ((c.toNat : Int) ≤ hi) := by
        show (decide (lo ≤ (c.toNat : Int)) && decide ((c.toNat : Int) ≤ hi)) = _
        rw [h2, Bool.true_and]
      rw [e] at q
      exact q
    · have e : inR lo hi (some c) = false := by
        show (decide (lo ≤ (c.toNat : Int)) && decide ((c.toNat : Int) ≤ hi)) = _
        rw [h2, Bool.false_and]
      rw [e] at q
      exact q
  · have h1 : ¬ (p : Int) < ((vBs bs).length : Int) := of_decide_eq_false h
    rw [vBs_length] at h1
    rw [List.getElem?_eq_none_iff.mpr (show bs.length ≤ p by omega)] at q
    exact q
theorem pure_Reader_stands (T : Fx K mg A) (vs : List V) (H : Hp) (Q : VK) (E : XK) (h : sp_Reader_stands K A vs H Q E) : t_Reader_stands K A E { nx := fun _ H' => Q .non H', rt := Q } (start ["self", "sign"] vs) H := by
  obtain ⟨_, r, dx, t, bs, p, c, S, rfl, R, q⟩ := h
  have hr := R.hr
  unfold t_Reader_stands
  walk_at "go"
  refine ⟨rfl, r, dx, t, bs, p, _, _, S, rfl, R, ?_⟩
  rw [inR_self]
  exact q
theorem pure_Reader_skip (T : Fx K mg A) (vs : List V) (H : Hp) (Q : VK) (E : XK) (h : sp_Reader_skip K A vs H Q E) : t_Reader_skip K A E { nx := fun _ H' => Q .non H', rt := Q } (start ["self", "sign"] vs) H := by
  obtain ⟨_, r, dx, t, bs, p, c, S, rfl, R, q1, q2⟩ := h
  have hr := R.hr
  unfold t_Reader_skip
  walk_at "go"
  refine ⟨rfl, r, dx, t, bs, p, _, S, rfl, R, ?_⟩
  walk_at "go"
  refine w_if2 (fun h => ?_) (fun h => ?_)
  · walk_at "go"
    have hn : ¬ bs[p]? = some c := of_decide_eq_false (by simpa using h)
    exact q2 hn
  · have hy : bs[p]? = some c := of_decide_eq_true (by simpa using h)
    walk_at "go"
    refine w_augI hr T.cl_Reader T.n_Reader_place lk_Reader_place ln_Reader pt_Reader_place ?_
    obtain ⟨R', G⟩ := R.put (q := p + 1) (lt_get hy)
    walk_at "go"
    exact q1 hy _ R' G
theorem pure_Reader_take (T : Fx K mg A) (vs : List V) (H : Hp) (Q : VK) (E : XK) (h : sp_Reader_take K A vs H Q E) : t_Reader_take K A E { nx := fun _ H' => Q .non H', rt := Q } (start ["self", "low", "high", "byte"] vs) H := by
  obtain ⟨_, lo, hi, r, dx, t, bs, p, S, rfl, R, q1, q2⟩ := h
  have hr := R.hr
  have sq : SqL K H t (vBs bs) := SqL.of (R.hS _ _ R.ht)
  unfold t_Reader_take
  walk_at "go"
  refine ⟨rfl, r, dx, t, bs, p, _, _, S, rfl, R, ?_⟩
  walk_at "go"
  refine w_if2 (fun h => ?_) (fun h => ?_)
  · walk_at "go"
    refine ⟨rfl, fun d hd => ?_⟩
    obtain ⟨R', G⟩ := R.made (o := .xd (PySem.OeX.fo_Fault [.int 1, .int (p : Nat)])) hd
    refine q2 ⟨1, p⟩ p d S _ ?_ R' G upd_same
    have hf : inR lo hi bs[p]? = false := by simpa using h
    unfold takeAt flt
    cases e : bs[p]? with
    | none => rw [drop_none e]
    | some c =>
      rw [drop_some e]
      rw [e] at hf
      simp only [hf]
      rfl
  · have hf : inR lo hi bs[p]? = true := by simpa using h
    cases e : bs[p]? with
    | none =>
      rw [e] at hf
      exact absurd hf Bool.false_ne_true
    | some c =>
      rw [e] at hf
      walk_at "go"
      refine w_augI hr T.cl_Reader T.n_Reader_place lk_Reader_place ln_Reader pt_Reader_place ?_
      obtain ⟨R', G⟩ := R.put (q := p + 1) (lt_get e)
      walk_at "go"
      refine q1 c (p + 1) _ S _ ?_ (Nat.le_succ p) R' G rfl
      unfold takeAt
      rw [drop_some e]
      simp only [hf]
      rfl
theorem pure_Reader_need (T : Fx K mg A) (vs : List V) (H : Hp) (Q : VK) (E : XK) (h : sp_Reader_need K A vs H Q E) : t_Reader_need K A E { nx := fun _ H' => Q .non H', rt := Q } (start ["self", "sign"] vs) H := by
  obtain ⟨_, c, r, dx, t, bs, p, S, rfl, R, q1, q2⟩ := h
  have hr := R.hr
  unfold t_Reader_need
  walk_at "go"
  have key : ∀ a : At, needAt c a = match takeAt (c.toNat : Int) (c.toNat : Int) a with
      | .ok (_, b) => .ok ((), b)
      | .error e => .error e := by
    rintro ⟨n, l⟩
    unfold needAt takeAt Vaflxa.expect flt Vaflxa.fault
    cases l with
    | nil => rfl
    | cons d l =>
      dsimp only
      rw [inR_self]
      by_cases e : d = c
      · subst e
        simp
      · have e2 : ¬ some d = some c := fun z => e (Option.some.inj z)
        simp [e, e2]
  refine ⟨rfl, _, _, r, dx, t, bs, p, S, rfl, R, fun x p' v S' H' e le R' G z => ?_, fun e p' d S' H' z R' G hd => ?_⟩
  · refine q1 () p' _ S' H' ?_ le R' G rfl
    rw [key, e]
  · refine q2 e p' d S' H' ?_ R' G hd
    rw [key, z]
theorem pure_Reader_need_end (T : Fx K mg A) (vs : List V) (H : Hp) (Q : VK) (E : XK) (h : sp_Reader_need_end K A vs H Q E) : t_Reader_need_end K A E { nx := fun _ H' => Q .non H', rt := Q } (start ["self"] vs) H := by
  obtain ⟨_, r, dx, t, bs, p, S, rfl, R, q1, q2⟩ := h
  have hr := R.hr
  have sq : SqL K H t (vBs bs) := SqL.of (R.hS _ _ R.ht)
  unfold t_Reader_need_end
  walk_at "go"
  refine w_if2 (fun h => ?_) (fun h => ?_)
  · walk_at "go"
    refine ⟨rfl, fun d hd => ?_⟩
    obtain ⟨R', G⟩ := R.made (o := .xd (PySem.OeX.fo_Fault [.int 1, .int (p : Nat)])) hd
    refine q2 ⟨1, p⟩ p d S _ ?_ R' G upd_same
    have h1 : (p : Int) < ((vBs bs).length : Int) := of_decide_eq_true h
    rw [vBs_length] at h1
    obtain ⟨c, hc⟩ := get_lt (show p < bs.length by omega)
    unfold endAt flt
    rw [drop_some hc]
  · walk_at "go"
    have h1 : ¬ (p : Int) < ((vBs bs).length : Int) := of_decide_eq_false h
    rw [vBs_length] at h1
    refine q1 () p _ S _ ?_ (Nat.le_refl p) R (Grow.refl R.hS) rfl
    unfold endAt
    rw [List.drop_eq_nil_of_le (show bs.length ≤ p by omega)]
theorem pure_read_digit (T : Fx K mg A) (vs : List V) (H : Hp) (Q : VK) (E : XK) (h : sp_read_digit K A vs H Q E) : t_read_digit K A E { nx := fun _ H' => Q .non H', rt := Q } (start ["reader"] vs) H := by
  obtain ⟨_, r, dx, t, bs, p, S, rfl, R, q1, q2⟩ := h
  have hr := R.hr
  unfold t_read_digit
  walk_at "lits"
  walk_at "go"
  refine ⟨rfl, _, _, r, dx, t, bs, p, S, rfl, R, fun x p' v S' H' e le R' G z => ?_, fun e p' d S' H' z R' G hd => ?_⟩
  · rw [z]
    unfold vB
    walk_at "go"
    exact q1 x p' _ S' H' e le R' G rfl
  · exact q2 e p' d S' H' z R' G hd
end
section
variable {K : PySem.W.Frag} {mg : Str → Option Value} {A : Ads}
theorem isDigit_inR (c : UInt8) : inR 48 57 (some c) = Vaflxa.isDigit c := by
  show (decide ((48 : Int) ≤ (c.toNat : Int)) && decide ((c.toNat : Int) ≤ 57)) = (decide (48 ≤ c) && decide (c ≤ 57))
  have e1 : ((48 : Int) ≤ (c.toNat : Int)) ↔ (48 ≤ c) := by
    rw [UInt8.le_iff_toNat_le]
    show ((48 : Int) ≤ (c.toNat : Int)) ↔ 48 ≤ c.toNat
    omega
  have e2 : ((c.toNat : Int) ≤ 57) ↔ (c ≤ 57) := by
    rw [UInt8.le_iff_toNat_le]
    show ((c.toNat : Int) ≤ 57) ↔ c.toNat ≤ 57
    omega
  rw [decide_eq_decide.mpr e1, decide_eq_decide.mpr e2]
theorem take_ok {lo hi : Int} {bs : List UInt8} {p p' : Nat} {x : UInt8} (h : takeAt lo hi (p, bs.drop p) = .ok (x, (p', bs.drop p'))) : bs[p]? = some x ∧ inR lo hi (some x) = true ∧ p' = p + 1 := by
  cases e : bs[p]? with
  | none =>
    rw [drop_none e] at h
    cases h
  | some c =>
    rw [drop_some e] at h
    unfold takeAt at h
    dsimp only at h
    by_cases hc : inR lo hi (some c) = true
    · rw [if_pos hc] at h
      injection h with h
      injection h with h1 h2
      injection h2 with h2 _
      subst h1
      exact ⟨rfl, hc, h2.symm⟩
    · rw [if_neg hc] at h
      cases h
theorem take_err {lo hi : Int} {bs : List UInt8} {p : Nat} {e : Vaflxa.Fault} (h : takeAt lo hi (p, bs.drop p) = .error e) : e = ⟨1, p⟩ ∧ inR lo hi bs[p]? = false := by
  cases e2 : bs[p]? with
  | none =>
    rw [drop_none e2] at h
    unfold takeAt flt at h
    injection h with h
    exact ⟨h.symm, rfl⟩
  | some c =>
    rw [drop_some e2] at h
    unfold takeAt at h
    dsimp only at h
    by_cases hc : inR lo hi (some c) = true
    · rw [if_pos hc] at h
      cases h
    · rw [if_neg hc] at h
      unfold flt at h
      injection h with h
      exact ⟨h.symm, Bool.eq_false_iff.mpr hc⟩
theorem take_is {lo hi : Int} {bs : List UInt8} {p : Nat} {c : UInt8} (h : bs[p]? = some c) (hc : inR lo hi (some c) = true) : takeAt lo hi (p, bs.drop p) = .ok (c, (p + 1, bs.drop (p + 1))) := by
  rw [drop_some h]
  unfold takeAt
  dsimp only
  rw [if_pos hc]
theorem take_not {lo hi : Int} {bs : List UInt8} {p : Nat} (h : inR lo hi bs[p]? = false) : takeAt lo hi (p, bs.drop p) = .error ⟨1, p⟩ := by
  cases e : bs[p]? with
  | none =>
    rw [drop_none e]
    rfl
  | some c =>
    rw [e] at h
    rw [drop_some e]
    unfold takeAt
    dsimp only
    rw [if_neg (by rw [h]; exact Bool.false_ne_true)]
    rfl
/-- a run of digits that was read -/
theorem tw_append {f : UInt8 → Bool} : ∀ {ds r : List UInt8}, ds.all f = true → (∀ c, r.head? = some c → f c = false) → (ds ++ r).takeWhile f = ds
  | [], [], _, _ => rfl
  | [], c :: r, _, h => by
    show (c :: r).takeWhile f = []
    rw [List.takeWhile_cons_of_neg (by rw [h c rfl]; exact Bool.false_ne_true)]
  | d :: ds, r, h, h2 => by
    simp only [Bool.and_eq_true, List.all_cons] at h
    show (d :: (ds ++ r)).takeWhile f = d :: ds
    rw [List.takeWhile_cons_of_pos h.1, tw_append h.2 h2]
def dV (c : UInt8) : V := .int ((c.toNat : Int) - 48)
def numF (m : Nat) (c : UInt8) : Nat := 10 * m + (c.toNat - 48)
theorem numAt_eq (lo hi : Nat) (p : Nat) (ds r : List UInt8) (hd : ds.all Vaflxa.isDigit = true) (hr : ∀ c, r.head? = some c → Vaflxa.isDigit c = false) (hne : ds ≠ []) : Vaflxa.numberAt lo hi (p, ds ++ r) =
    if 2 < ds.length ∨ (ds.length = 2 ∧ ds.headD 0 = 48) ∨ ds.foldl numF 0 < lo ∨ hi < ds.foldl numF 0 then .error ⟨3, p⟩ else .ok (ds.foldl numF 0, (p + ds.length, r)) := by
  unfold Vaflxa.numberAt Vaflxa.fault
  dsimp only
  rw [tw_append hd hr]
  have hE : ds.isEmpty = false := by
    cases ds with
    | nil => exact absurd rfl hne
    | cons _ _ => rfl
  rw [hE, if_neg Bool.false_ne_true, List.drop_left]
  rfl
theorem digit_ge {c : UInt8} (h : Vaflxa.isDigit c = true) : 48 ≤ c.toNat ∧ c.toNat ≤ 57 := by
  unfold Vaflxa.isDigit at h
  rw [Bool.and_eq_true] at h
  have h1 := UInt8.le_iff_toNat_le.mp (of_decide_eq_true h.1)
  have h2 := UInt8.le_iff_toNat_le.mp (of_decide_eq_true h.2)
  exact ⟨h1, h2⟩
theorem digit_err {lo hi : Nat} {bs : List UInt8} {p : Nat} {e : Vaflxa.Fault} (h : digitAt (p, bs.drop p) = .error e) : Vaflxa.numberAt lo hi (p, bs.drop p) = .error e := by
  obtain ⟨rfl, h2⟩ := take_err h
  unfold Vaflxa.numberAt Vaflxa.fault
  dsimp only
  have e : (bs.drop p).takeWhile Vaflxa.isDigit = [] := by
    cases e2 : bs[p]? with
    | none => rw [drop_none e2]; rfl
    | some c =>
      rw [e2, isDigit_inR] at h2
      rw [drop_some e2, List.takeWhile_cons_of_neg (by rw [h2]; exact Bool.false_ne_true)]
  rw [e]
  rfl
structure NumW (K : PySem.W.Frag) (A : Ads) (S H : Hp) (r dx t : Addr) (bs : List UInt8) (p : Nat) (l : Addr) (ds : List UInt8) (S' H' : Hp) : Prop where
  R : RdAt A S' H' r dx t bs (p + ds.length)
  G : Grow (fun b => b = r) S H S' H'
  lst : H' l = some (.lst (ds.map dV))
  sl : S' l = none
  nl : H l = none
  dd : ds.all Vaflxa.isDigit = true
  ne : ds ≠ []
  eq : bs.drop p = ds ++ bs.drop (p + ds.length)

theorem numF_lt : ∀ (l : List UInt8) (m : Nat), l.all Vaflxa.isDigit = true → l.foldl numF m < (m + 1) * 10 ^ l.length
  | [], m, _ => by simp
  | c :: l, m, h => by
    simp only [Bool.and_eq_true, List.all_cons] at h
    have ih := numF_lt l (numF m c) h.2
    have hc := digit_ge h.1
    rw [List.length_cons, List.foldl_cons]
    refine Nat.lt_of_lt_of_le ih ?_
    have e : (m + 1) * 10 ^ (l.length + 1) = (10 * m + 10) * 10 ^ l.length := by
      rw [Nat.pow_succ, ← Nat.mul_assoc, Nat.mul_right_comm]
      congr 1
      omega
    rw [e]
    refine Nat.mul_le_mul_right _ ?_
    unfold numF
    omega
theorem numF_99 {l : List UInt8} (h : l.all Vaflxa.isDigit = true) (hl : l.length ≤ 2) : l.foldl numF 0 ≤ 99 := by
  have z := numF_lt l 0 h
  have e : 10 ^ l.length ≤ 10 ^ 2 := Nat.pow_le_pow_right (by decide) hl
  omega
theorem all_take {f : UInt8 → Bool} {l : List UInt8} (h : l.all f = true) (i : Nat) : (l.take i).all f = true := by
  rw [List.all_eq_true] at h ⊢
  exact fun x hx => h x (List.mem_of_mem_take hx)
theorem foldl_take {l : List UInt8} {i : Nat} {c : UInt8} (h : l[i]? = some c) : (l.take (i + 1)).foldl numF 0 = numF ((l.take i).foldl numF 0) c := by
  simp only [List.take_add_one, h, List.foldl_append]
  rfl
theorem map_get {α : Type} {f : α → V} {l : List α} {i : Nat} {x : V} (h : (l.map f)[i]? = some x) : ∃ c, l[i]? = some c ∧ x = f c := by
  rw [List.getElem?_map] at h
  cases e : l[i]? with
  | none => rw [e] at h; nomatch h
  | some c => rw [e] at h; exact ⟨c, rfl, (Option.some.inj h).symm⟩
theorem pure_read_number (T : Fx K mg A) (vs : List V) (H : Hp) (Q : VK) (E : XK) (h : sp_read_number K A vs H Q E) : t_read_number K A E { nx := fun _ H' => Q .non H', rt := Q } (start ["reader", "low", "high", "start", "digits", "number", "digit"] vs) H := by
  obtain ⟨_, lo, hi, r, dx, t, bs, p, S, rfl, R, q1, q2⟩ := h
  have hr := R.hr
  unfold t_read_number
  walk_at "lits"
  walk_at "go"
  refine ⟨rfl, r, dx, t, bs, p, S, rfl, R, fun x p1 v S1 H1 e le1 R1 G1 z => ?_, fun e p1 d S1 H1 z R1 G1 hd => q2 e p1 d S1 H1 (digit_err z) R1 G1 hd⟩
  obtain ⟨hx, hxd, rfl⟩ := take_ok e
  subst z
  walk_at "go"
  refine w_obj (show 1 ≤ 1000000 by decide) (fun l hl => ?_)
  walk_at "go"
  obtain ⟨R2, G2⟩ := R1.made (o := .lst [dV x]) hl
  have W0 : NumW K A S H r dx t bs p l [x] S1 (upd H1 l (.lst [dV x])) :=
    ⟨R2, G1.trans G2, upd_same, R1.hS.free hl, G1.stay l hl, by rw [List.all_cons, ← isDigit_inR, hxd]; rfl, List.cons_ne_nil _ _, drop_some hx⟩
  refine w_while (fun m σ H' => ∃ ds S', σ = [some (.ref r), some (.int (lo : Nat)), some (.int (hi : Nat)), some (.int (p : Nat)), some (.ref l), none, none] ∧ m = bs.length - ds.length ∧ NumW K A S H r dx t bs p l ds S' H') _ ⟨[x], S1, rfl, rfl, W0⟩ ?_
  rintro m σ H' ⟨ds, S', rfl, rfl, W⟩
  have hr' := W.R.hr
  have hlst := W.lst
  have nrl : r ≠ l := ne_of_none R.hr W.nl
  walk_at "go"
  refine ⟨rfl, r, dx, t, bs, _, _, _, S', rfl, W.R, ?_⟩
  walk_at "go"
  refine w_if2 (fun h => ?_) (fun h => ?_)
  · refine w_turn ?_
    walk_at "go"
    refine ⟨rfl, r, dx, t, bs, _, S', rfl, W.R, fun y p2 v S2 H2 e2 le2 R3 G3 z => ?_, fun e p2 d S2 H2 z => ?_⟩
    · obtain ⟨hy, hyd, rfl⟩ := take_ok e2
      subst z
      walk_at "go"
      have h2 : H2 l = some (.lst (ds.map dV)) := G3.same l _ hlst (Ne.symm nrl)
      have s2 : S2 l = none := G3.out (by rw [hlst]; exact fun z => nomatch z) W.sl
      have hlen : ds.length < bs.length := by
        have := lt_get hy
        omega
      refine w_app h2 (by rw [List.length_map]; have := R.hl; exact Nat.lt_of_lt_of_le (show ds.length < 1000 by omega) (by decide)) ?_
      refine ⟨_, ?_, ds ++ [y], S2, rfl, rfl, ?_⟩
      · rw [List.length_append, List.length_singleton]
        omega
      · refine ⟨?_, ?_, ?_, s2, W.nl, ?_, by simp, ?_⟩
        · rw [List.length_append, List.length_singleton, ← Nat.add_assoc]
          exact R3.other (Ne.symm nrl) s2
        · exact (W.G.trans G3).put_new W.nl (by rw [h2]; exact fun z => nomatch z) s2
        · rw [upd_same, List.map_append]
          rfl
        · rw [List.all_append, W.dd, Bool.true_and, List.all_cons, ← isDigit_inR, hyd]
          rfl
        · rw [W.eq, drop_some hy, List.length_append, List.length_singleton, List.append_assoc, ← Nat.add_assoc]
          rfl
    · obtain ⟨_, z2⟩ := take_err z
      have h : inR 48 57 bs[p + ds.length]? = true := h
      rw [h] at z2
      cases z2
  · have h : inR 48 57 bs[p + ds.length]? = false := h
    have hend : ∀ c, (bs.drop (p + ds.length)).head? = some c → Vaflxa.isDigit c = false := by
      intro c hc
      rw [List.head?_drop] at hc
      rw [hc, isDigit_inR] at h
      exact h
    have key := numAt_eq lo hi p ds _ W.dd hend W.ne
    rw [← W.eq] at key
    have bad : (2 < ds.length ∨ (ds.length = 2 ∧ ds.headD 0 = 48) ∨ ds.foldl numF 0 < lo ∨ hi < ds.foldl numF 0) → IsErr A.c_Fault 2 PySem.OeX.fo_Fault [.int 3, .int (p : Nat)] H' E := by
      intro hc
      refine ⟨rfl, fun d hd => ?_⟩
      rw [if_pos hc] at key
      obtain ⟨R4, G4⟩ := W.R.made (o := .xd (PySem.OeX.fo_Fault [.int 3, .int (p : Nat)])) hd
      exact q2 ⟨3, p⟩ _ d S' _ key R4 (W.G.trans G4) upd_same
    have sl : SqL K H' l (ds.map dV) := SqL.of hlst
    walk_at "go"
    rw [List.length_map]
    refine w_if2 (fun h1 => ?_) (fun h1 => ?_)
    · have h1 : (2 : Int) < (ds.length : Int) := of_decide_eq_true h1
      walk_at "go"
      exact bad (Or.inl (by omega))
    have h1 : ¬ (2 : Int) < (ds.length : Int) := of_decide_eq_false h1
    have hle : ds.length ≤ 2 := by omega
    walk_at "go"
    refine w_eq rfl ?_
    walk_at "go"
    rw [List.length_map]
    have rest : ¬ (ds.length = 2 ∧ ds.headD 0 = 48) → ∀ v5 v6, (tSeq (tAsg (tC (.int 0)) (gName 5)) (tSeq (tFor (iList K (tVar 4)) (gName 6) (tAsg (tOp rAddI (tOp rMulI (tVar 5) (tC (.int 10))) (tVar 6)) (gName 5))) (tSeq (tIfS (tOr (tTest (tOp rLtI (tVar 5) (tVar 1))) (tTest (tOp rGtI (tVar 5) (tVar 2)))) (tErr A.c_Fault 2 PySem.OeX.fo_Fault E (tCons (tC (.int 3)) (tCons (tVar 3) tNil))) tNext) (tRet (tVar 5))))) { nx := fun _ H' => Q .non H', rt := Q } [some (.ref r), some (.int (lo : Nat)), some (.int (hi : Nat)), some (.int (p : Nat)), some (.ref l), v5, v6] H' := by
      intro hn v5 v6
      walk_at "go"
      refine w_isforl (xs := ds.map dV) (fun i σ H2 => H2 = H' ∧ ∃ v, σ = [some (.ref r), some (.int (lo : Nat)), some (.int (hi : Nat)), some (.int (p : Nat)), some (.ref l), some (.int ((ds.take i).foldl numF 0 : Nat)), v]) sl ⟨rfl, v6, rfl⟩ (fun i σ H2 _ z => by rw [z.1]; exact sl) ?_ ?_
      · rintro i x2 σ H2 hx2 ⟨rfl, v, rfl⟩
        obtain ⟨c, hc, rfl⟩ := map_get hx2
        have hcd : Vaflxa.isDigit c = true := by
          have := List.all_eq_true.mp W.dd c (List.mem_of_getElem? hc)
          exact this
        have hb := numF_99 (all_take W.dd i) (by rw [List.length_take]; omega)
        unfold dV
        walk_at "go"
        refine w_mul (by omega) ?_
        walk_at "go"
        refine ⟨rfl, some (V.int ((c.toNat : Int) - 48)), ?_⟩
        rw [foldl_take hc]
        have hg := digit_ge hcd
        have e5 : ((List.foldl numF 0 (List.take i ds) : Nat) : Int) * 10 + ((c.toNat : Int) - 48) = ((numF (List.foldl numF 0 (List.take i ds)) c : Nat) : Int) := by
          unfold numF
          omega
        show [_, _, _, _, _, some (V.int (((List.foldl numF 0 (List.take i ds) : Nat) : Int) * 10 + ((c.toNat : Int) - 48))), _] = _
        rw [e5]
      · rintro σ H2 ⟨rfl, v, rfl⟩
        rw [List.length_map, List.take_length]
        walk_at "go"
        refine w_if2 (fun h3 => ?_) (fun h3 => ?_)
        · have h3 : ((ds.foldl numF 0 : Nat) : Int) < (lo : Int) := of_decide_eq_true h3
          walk_at "go"
          exact bad (Or.inr (Or.inr (Or.inl (by omega))))
        have h3 : ¬ ((ds.foldl numF 0 : Nat) : Int) < (lo : Int) := of_decide_eq_false h3
        walk_at "go"
        refine w_if2 (fun h4 => ?_) (fun h4 => ?_)
        · have h4 : (hi : Int) < ((ds.foldl numF 0 : Nat) : Int) := of_decide_eq_true h4
          walk_at "go"
          exact bad (Or.inr (Or.inr (Or.inr (by omega))))
        have h4 : ¬ (hi : Int) < ((ds.foldl numF 0 : Nat) : Int) := of_decide_eq_false h4
        walk_at "go"
        have hno : ¬ (2 < ds.length ∨ (ds.length = 2 ∧ ds.headD 0 = 48) ∨ ds.foldl numF 0 < lo ∨ hi < ds.foldl numF 0) := by
          rintro (z | z | z | z)
          · omega
          · exact hn z
          · omega
          · omega
        rw [if_neg hno] at key
        exact q1 _ _ _ S' _ key (Nat.le_add_right _ _) W.R W.G ⟨rfl, by omega, by omega⟩
    refine w_if2 (fun h2 => ?_) (fun h2 => ?_)
    · have h2 : (ds.length : Int) = 2 := V.int.inj (of_decide_eq_true h2)
      obtain ⟨a, b, rfl⟩ : ∃ a b, ds = [a, b] := by
        match ds, h2 with
        | [a, b], _ => exact ⟨a, b, rfl⟩
      walk_at "go"
      refine w_ixL sl (v := dV a) (at_of (j := 0) rfl rfl) ?_
      unfold dV
      walk_at "go"
      refine w_eq rfl ?_
      walk_at "go"
      have ha : 48 ≤ a.toNat := by
        have z := W.dd
        rw [List.all_cons, Bool.and_eq_true] at z
        exact (digit_ge z.1).1
      refine w_if2 (fun h5 => ?_) (fun h5 => ?_)
      · have h5 : (a.toNat : Int) - 48 = 0 := V.int.inj (of_decide_eq_true h5)
        walk_at "go"
        refine bad (Or.inr (Or.inl ⟨rfl, ?_⟩))
        show a = 48
        exact UInt8.toNat_inj.mp (show a.toNat = 48 by omega)
      · have h5 : ¬ V.int ((a.toNat : Int) - 48) = V.int 0 := of_decide_eq_false h5
        refine w_next ?_
        refine rest ?_ none none
        rintro ⟨_, z⟩
        have z : a = 48 := z
        subst z
        exact h5 rfl
    · have h2 : ¬ V.int (ds.length : Int) = V.int 2 := of_decide_eq_false h2
      refine w_ifF ?_
      refine w_next ?_
      refine rest ?_ none none
      rintro ⟨z, _⟩
      rw [z] at h2
      exact h2 rfl
end
section
variable {K : PySem.W.Frag} {mg : Str → Option Value} {A : Ads}
theorem btw (lo hi c : UInt8) : (decide ((lo.toNat : Int) ≤ (c.toNat : Int)) && decide ((c.toNat : Int) ≤ (hi.toNat : Int))) = (decide (lo ≤ c) && decide (c ≤ hi)) := by
  have e1 : ((lo.toNat : Int) ≤ (c.toNat : Int)) ↔ (lo ≤ c) := by
    rw [UInt8.le_iff_toNat_le]
    omega
  have e2 : ((c.toNat : Int) ≤ (hi.toNat : Int)) ↔ (c ≤ hi) := by
    rw [UInt8.le_iff_toNat_le]
    omega
  rw [decide_eq_decide.mpr e1, decide_eq_decide.mpr e2]
theorem btw_self (d c : UInt8) : (decide (d ≤ c) && decide (c ≤ d)) = (c == d) := by
  rw [Bool.eq_iff_iff, Bool.and_eq_true, decide_eq_true_eq, decide_eq_true_eq, beq_iff_eq, UInt8.le_iff_toNat_le, UInt8.le_iff_toNat_le, ← UInt8.toNat_inj]
  omega
theorem any_class (k : Cls) (c : UInt8) : spans_any (c.toNat : Int) (spans k) = Vaflxa.inClass k c := by
  have dg := btw 48 57 c
  have sm := btw 97 122 c
  have cp := btw 65 90 c
  have bl := btw 32 32 c
  cases k with
  | empty => rfl
  | digits =>
    show (_ || false) = Vaflxa.isDigit c
    rw [Bool.or_false]
    exact dg
  | small =>
    show (_ || false) = Vaflxa.isSmall c
    rw [Bool.or_false]
    exact sm
  | capitals =>
    show (_ || false) = Vaflxa.isCapital c
    rw [Bool.or_false]
    exact cp
  | letters =>
    show (_ || (_ || false)) = (Vaflxa.isSmall c || Vaflxa.isCapital c)
    rw [Bool.or_false, Bool.or_comm]
    exact congr (congrArg or sm) cp
  | words =>
    show (_ || (_ || (_ || false))) = ((Vaflxa.isSmall c || Vaflxa.isCapital c) || Vaflxa.isDigit c)
    rw [Bool.or_false, Bool.or_comm]
    refine congr (congrArg or ?_) dg
    rw [Bool.or_comm]
    exact congr (congrArg or sm) cp
  | blanks =>
    show (_ || false) = (c == 32)
    rw [Bool.or_false, ← btw_self]
    exact bl
  | sign d =>
    show (_ || false) = (c == d)
    rw [Bool.or_false, ← btw_self]
    exact btw d d c
theorem paired_emp {α β : Type} {F : α → β → Prop} {l : List α} {m : List β} (h : Paired F l m) : l.isEmpty = m.isEmpty := by
  cases h <;> rfl
theorem spans_nil {k : Cls} : (spans k).isEmpty = Vaflxa.isEmptyClass k := by
  cases k <;> rfl
theorem pure_in_spans (T : Fx K mg A) (vs : List V) (H : Hp) (Q : VK) (E : XK) (h : sp_in_spans K A vs H Q E) : t_in_spans K A E { nx := fun _ H' => Q .non H', rt := Q } (start ["byte", "spans", "low", "high"] vs) H := by
  obtain ⟨_, b, a, l, rfl, ⟨xs, hx, hp⟩, q⟩ := h
  unfold t_in_spans
  walk_at "go"
  refine w_isforl (xs := xs) (fun i σ H' => H' = H ∧ spans_any b (l.take i) = false ∧ ∃ v2 v3, σ = [some (.int b), some (.ref a), v2, v3]) hx ⟨rfl, rfl, none, none, rfl⟩ (fun i σ H' _ z => by rw [z.1]; exact hx) ?_ ?_
  · rintro i x σ H' hi ⟨rfl, hf, v2, v3, rfl⟩
    obtain ⟨⟨lo, hi'⟩, hy, c, rfl, ht⟩ := Paired.get' hp hi
    refine w_gtup2 ht ?_
    walk_at "go"
    have step : spans_any b (l.take (i + 1)) = (decide (lo ≤ b) && decide (b ≤ hi')) := by
      unfold spans_any at hf ⊢
      rw [List.take_add_one, hy, List.any_append, hf, Bool.false_or]
      show (_ || false) = _
      rw [Bool.or_false]
    have all : spans_any b (l.take (i + 1)) = true → spans_any b l = true := by
      intro z
      unfold spans_any at z ⊢
      rw [List.any_eq_true] at z ⊢
      obtain ⟨y, hy1, hy2⟩ := z
      exact ⟨y, List.mem_of_mem_take hy1, hy2⟩
    refine w_if2 (fun h1 => ?_) (fun h1 => ?_)
    · walk_at "go"
      refine w_if2 (fun h2 => ?_) (fun h2 => ?_)
      · walk_at "go"
        rw [all (by rw [step, h1, h2]; rfl)] at q
        exact q
      · walk_at "go"
        exact ⟨rfl, by rw [step, h1, h2]; rfl, _, _, rfl⟩
    · walk_at "go"
      exact ⟨rfl, by rw [step, h1]; rfl, _, _, rfl⟩
  · rintro σ H' ⟨rfl, hf, v2, v3, rfl⟩
    walk_at "go"
    rw [Paired.len hp, List.take_length] at hf
    rw [hf] at q
    exact q
theorem pure_is_letter_or_digit (T : Fx K mg A) (B : Tabs K A) (vs : List V) (H : Hp) (Q : VK) (E : XK) (h : sp_is_letter_or_digit K A vs H Q E) : t_is_letter_or_digit K A E { nx := fun _ H' => Q .non H', rt := Q } (start ["byte"] vs) H := by
  obtain ⟨_, b, rfl, q⟩ := h
  obtain ⟨xs, hw, hp⟩ := B.lad
  unfold t_is_letter_or_digit
  walk_at "go"
  refine w_list (Or.inr hw.at) (fun l hl => ?_)
  walk_at "go"
  exact ⟨rfl, b, l, spans .words, rfl, WrSpans.new hp, q _ (same_upd hl)⟩
theorem pure_stands_behind (T : Fx K mg A) (vs : List V) (H : Hp) (Q : VK) (E : XK) (h : sp_stands_behind K A vs H Q E) : t_stands_behind K A E { nx := fun _ H' => Q .non H', rt := Q } (start ["text", "place", "spans"] vs) H := by
  obtain ⟨_, t, bs, p, a, k, rfl, ht, ha, q⟩ := h
  unfold t_stands_behind
  walk_at "go"
  refine w_if2 (fun h1 => ?_) (fun h1 => ?_)
  · have h1' : (0 : Int) ≤ p := of_decide_eq_true h1
    obtain ⟨n, rfl⟩ := Int.eq_ofNat_of_zero_le h1'
    rw [h1, Bool.true_and] at q
    have q : Q (.bl (Vaflxa.byteIn k bs n)) H := q
    walk_at "go"
    rw [vBs_length]
    refine w_if2 (fun h2 => ?_) (fun h2 => ?_)
    · have h2 : (n : Int) < (bs.length : Int) := of_decide_eq_true h2
      obtain ⟨c, hc⟩ := get_lt (show n < bs.length by omega)
      walk_at "go"
      refine ⟨rfl, _, a, spans k, rfl, ha, ?_⟩
      rw [any_class]
      unfold Vaflxa.byteIn at q
      rw [hc] at q
      exact q
    · have h2 : ¬ (n : Int) < (bs.length : Int) := of_decide_eq_false h2
      walk_at "go"
      unfold Vaflxa.byteIn at q
      rw [List.getElem?_eq_none_iff.mpr (show bs.length ≤ n by omega)] at q
      exact q
  · walk_at "go"
    rw [h1, Bool.false_and] at q
    exact q
theorem before_is (k : Cls) (bs : List UInt8) (p : Nat) : (decide ((0 : Int) ≤ (p : Int) - 1) && Vaflxa.byteIn k bs ((p : Int) - 1).toNat) = Vaflxa.beforeIn k bs p := by
  unfold Vaflxa.beforeIn
  have e1 : ((0 : Int) ≤ (p : Int) - 1) ↔ 0 < p := by omega
  have e2 : ((p : Int) - 1).toNat = p - 1 := by omega
  rw [decide_eq_decide.mpr e1, e2]
theorem at_is (k : Cls) (bs : List UInt8) (p : Nat) : (decide ((0 : Int) ≤ (p : Int)) && Vaflxa.byteIn k bs ((p : Int)).toNat) = Vaflxa.byteIn k bs p := by
  rw [decide_eq_true (by omega), Bool.true_and]
  rfl
theorem pure_begins (T : Fx K mg A) (vs : List V) (H : Hp) (Q : VK) (E : XK) (h : sp_begins K A vs H Q E) : t_begins K A E { nx := fun _ H' => Q .non H', rt := Q } (start ["text", "place", "spans"] vs) H := by
  obtain ⟨_, t, bs, p, a, k, rfl, ht, ha, q⟩ := h
  obtain ⟨xs, hx, hp⟩ := ha
  have ee : xs.isEmpty = Vaflxa.isEmptyClass k := by
    rw [← spans_nil]
    exact paired_emp hp
  unfold t_begins
  walk_at "go"
  rw [Bool.not_not, ee]
  unfold Vaflxa.begins at q
  refine w_if2 (fun h1 => ?_) (fun h1 => ?_)
  · walk_at "go"
    rw [h1, Bool.true_or] at q
    exact q
  · walk_at "go"
    rw [h1, Bool.false_or] at q
    refine ⟨rfl, t, bs, _, a, k, rfl, ht, ⟨xs, hx, hp⟩, ?_⟩
    rw [at_is]
    walk_at "go"
    refine w_if2 (fun h2 => ?_) (fun h2 => ?_)
    · walk_at "go"
      refine ⟨rfl, t, bs, _, a, k, rfl, ht, ⟨xs, hx, hp⟩, ?_⟩
      rw [before_is]
      walk_at "go"
      rw [h2, Bool.true_and] at q
      exact q
    · rw [h2, Bool.false_and] at q
      exact q
theorem pure_ends (T : Fx K mg A) (vs : List V) (H : Hp) (Q : VK) (E : XK) (h : sp_ends K A vs H Q E) : t_ends K A E { nx := fun _ H' => Q .non H', rt := Q } (start ["text", "place", "spans"] vs) H := by
  obtain ⟨_, t, bs, p, a, k, rfl, ht, ha, q⟩ := h
  obtain ⟨xs, hx, hp⟩ := ha
  have ee : xs.isEmpty = Vaflxa.isEmptyClass k := by
    rw [← spans_nil]
    exact paired_emp hp
  unfold t_ends
  walk_at "go"
  rw [Bool.not_not, ee]
  unfold Vaflxa.ends at q
  refine w_if2 (fun h1 => ?_) (fun h1 => ?_)
  · walk_at "go"
    rw [h1, Bool.true_or] at q
    exact q
  · walk_at "go"
    rw [h1, Bool.false_or] at q
    refine ⟨rfl, t, bs, _, a, k, rfl, ht, ⟨xs, hx, hp⟩, ?_⟩
    rw [before_is]
    walk_at "go"
    refine w_if2 (fun h2 => ?_) (fun h2 => ?_)
    · walk_at "go"
      refine ⟨rfl, t, bs, _, a, k, rfl, ht, ⟨xs, hx, hp⟩, ?_⟩
      rw [at_is]
      walk_at "go"
      rw [h2, Bool.true_and] at q
      exact q
    · rw [h2, Bool.false_and] at q
      exact q
def vN (n : Nat) : V := .int (n : Nat)
theorem pure_borders (T : Fx K mg A) (vs : List V) (H : Hp) (Q : VK) (E : XK) (h : sp_borders K A vs H Q E) : t_borders K A E { nx := fun _ H' => Q .non H', rt := Q } (start ["text", "left", "right", "found", "place"] vs) H := by
  obtain ⟨_, t, bs, a, l, b, r, rfl, ht, hz, ha, hb, q⟩ := h
  unfold t_borders
  walk_at "go"
  refine w_obj (show 0 ≤ 1000000 by decide) (fun f hf => ?_)
  have ht0 : SqL K (upd H f (.lst [])) t (vBs bs) := SqL.upd ht hf
  walk_at "go"
  rw [vBs_length]
  refine w_isforr (n := bs.length + 1) (by omega) (by omega) (fun i σ H' => H' = upd H f (.lst (((List.range i).filter fun p => Vaflxa.ends l bs p && Vaflxa.begins r bs p).map vN)) ∧ ∃ v, σ = [some (.ref t), some (.ref a), some (.ref b), some (.ref f), v]) ⟨rfl, none, rfl⟩ ?_ ?_
  · rintro i σ H' hi ⟨rfl, v, rfl⟩
    have ht1 := SqL.upd (o := .lst (((List.range i).filter fun p => Vaflxa.ends l bs p && Vaflxa.begins r bs p).map vN)) ht hf
    have ha1 := ha.mono (same_upd (o := .lst (((List.range i).filter fun p => Vaflxa.ends l bs p && Vaflxa.begins r bs p).map vN)) hf)
    have hb1 := hb.mono (same_upd (o := .lst (((List.range i).filter fun p => Vaflxa.ends l bs p && Vaflxa.begins r bs p).map vN)) hf)
    have hlen : (((List.range i).filter fun p => Vaflxa.ends l bs p && Vaflxa.begins r bs p).map vN).length ≤ i := by
      rw [List.length_map]
      exact Nat.le_trans (List.length_filter_le _ _) (by rw [List.length_range]; exact Nat.le_refl _)
    have step : ∀ c, c = (Vaflxa.ends l bs i && Vaflxa.begins r bs i) → ((List.range (i + 1)).filter fun p => Vaflxa.ends l bs p && Vaflxa.begins r bs p).map vN = ((List.range i).filter fun p => Vaflxa.ends l bs p && Vaflxa.begins r bs p).map vN ++ (if c = true then [vN i] else []) := by
      rintro c rfl
      rw [List.range_succ, List.filter_append, List.map_append]
      congr 1
      by_cases hc : (Vaflxa.ends l bs i && Vaflxa.begins r bs i) = true
      · rw [if_pos hc, List.filter_cons, if_pos hc]
        rfl
      · rw [if_neg hc, List.filter_cons, if_neg hc]
        rfl
    walk_at "go"
    refine ⟨rfl, t, bs, i, a, l, rfl, ht1, ha1, ?_⟩
    walk_at "go"
    refine w_if2 (fun h1 => ?_) (fun h1 => ?_)
    · walk_at "go"
      refine ⟨rfl, t, bs, i, b, r, rfl, ht1, hb1, ?_⟩
      walk_at "go"
      refine w_if2 (fun h2 => ?_) (fun h2 => ?_)
      · walk_at "go"
        refine w_tyL upd_same ?_
        walk_at "go"
        refine w_app upd_same (Nat.lt_of_le_of_lt hlen (Nat.lt_of_lt_of_le (show i < 2000 by omega) (by decide))) ?_
        refine ⟨?_, some (.int (i : Nat)), rfl⟩
        rw [upd_upd, step true (by rw [h1, h2]; rfl), if_pos rfl]
        rfl
      · walk_at "go"
        refine ⟨?_, some (.int (i : Nat)), rfl⟩
        rw [step false (by rw [h1, h2]; rfl), if_neg Bool.false_ne_true, List.append_nil]
    · walk_at "go"
      refine ⟨?_, some (.int (i : Nat)), rfl⟩
      rw [step false (by rw [h1]; rfl), if_neg Bool.false_ne_true, List.append_nil]
  · rintro σ H' ⟨rfl, v, rfl⟩
    walk_at "go"
    exact q f hf
theorem pure_FromStart_place_in (T : Fx K mg A) (vs : List V) (H : Hp) (Q : VK) (E : XK) (h : sp_FromStart_place_in K A vs H Q E) : t_FromStart_place_in K A E { nx := fun _ H' => Q .non H', rt := Q } (start ["self", "text"] vs) H := by
  obtain ⟨_, a, x, t, bs, rfl, ⟨hi, hx⟩, ht, hz, q⟩ := h
  cases x with
  | start k =>
    obtain ⟨dx, ho, hk⟩ := hx
    have q := q H (Same.refl H)
    unfold Vaflxa.placeOf at q
    unfold t_FromStart_place_in
    walk_at "go"
    rw [vBs_length]
    refine w_if2 (fun h1 => ?_) (fun h1 => ?_)
    · have h1 : (k : Int) ≤ (bs.length : Int) := of_decide_eq_true h1
      walk_at "go"
      dsimp only at q
      rw [if_pos (show k ≤ bs.length by omega)] at q
      exact q
    · have h1 : ¬ (k : Int) ≤ (bs.length : Int) := of_decide_eq_false h1
      walk_at "go"
      dsimp only at q
      rw [if_neg (show ¬ k ≤ bs.length by omega)] at q
      exact q
  | finish k => exact hi.elim
  | left l r c => exact hi.elim
  | right l r c => exact hi.elim
theorem pure_FromEnd_place_in (T : Fx K mg A) (vs : List V) (H : Hp) (Q : VK) (E : XK) (h : sp_FromEnd_place_in K A vs H Q E) : t_FromEnd_place_in K A E { nx := fun _ H' => Q .non H', rt := Q } (start ["self", "text"] vs) H := by
  obtain ⟨_, a, x, t, bs, rfl, ⟨hi, hx⟩, ht, hz, q⟩ := h
  cases x with
  | finish k =>
    obtain ⟨dx, ho, hk⟩ := hx
    have q := q H (Same.refl H)
    unfold Vaflxa.placeOf at q
    unfold t_FromEnd_place_in
    walk_at "go"
    rw [vBs_length]
    refine w_if2 (fun h1 => ?_) (fun h1 => ?_)
    · have h1 : (k : Int) ≤ (bs.length : Int) := of_decide_eq_true h1
      walk_at "go"
      dsimp only at q
      rw [if_pos (show k ≤ bs.length by omega)] at q
      have e : ((vBs bs).length : Int) - (k : Int) = ((bs.length - k : Nat) : Int) := by
        rw [vBs_length]
        omega
      rw [e]
      exact q
    · have h1 : ¬ (k : Int) ≤ (bs.length : Int) := of_decide_eq_false h1
      walk_at "go"
      dsimp only at q
      rw [if_neg (show ¬ k ≤ bs.length by omega)] at q
      exact q
  | start k => exact hi.elim
  | left l r c => exact hi.elim
  | right l r c => exact hi.elim
theorem pure_Border_place_in (T : Fx K mg A) (vs : List V) (H : Hp) (Q : VK) (E : XK) (h : sp_Border_place_in K A vs H Q E) : t_Border_place_in K A E { nx := fun _ H' => Q .non H', rt := Q } (start ["self", "text", "places"] vs) H := by
  obtain ⟨_, a, x, t, bs, rfl, ⟨hi, hx⟩, ht, hz, q⟩ := h
  have main : ∀ (dx al ar : Addr) (l r : Cls) (c : Nat) (fr : Bool), H a = some (.ins A.c_Border dx (fs_Border (.ref al) (.ref ar) (.int (c : Nat)) (.bl fr))) → SpansAt K H al (spans l) → SpansAt K H ar (spans r) → 1 ≤ c →
      Vaflxa.placeOf x bs = (if fr = true then (Vaflxa.borders l r bs).reverse[c - 1]? else (Vaflxa.borders l r bs)[c - 1]?) →
      t_Border_place_in K A E { nx := fun _ H' => Q .non H', rt := Q } (start ["self", "text", "places"] [.ref a, .ref t]) H := by
    intro dx al ar l r c fr ho hl hr hc hp
    unfold t_Border_place_in
    walk_at "go"
    refine ⟨rfl, t, bs, al, l, ar, r, rfl, ht, hz, hl, hr, fun p hpn => ?_⟩
    have ho1 : (upd H p (.lst ((Vaflxa.borders l r bs).map fun n => V.int (n : Nat)))) a = some (.ins A.c_Border dx (fs_Border (.ref al) (.ref ar) (.int (c : Nat)) (.bl fr))) := by
      rw [upd_ne (ne_of_none ho hpn)]
      exact ho
    have hp1 : SqL K (upd H p (.lst ((Vaflxa.borders l r bs).map fun n => V.int (n : Nat)))) p ((Vaflxa.borders l r bs).map fun n => V.int (n : Nat)) := SqL.of upd_same
    have q := q _ (same_upd (o := .lst ((Vaflxa.borders l r bs).map fun n => V.int (n : Nat))) hpn)
    walk_at "go"
    rw [List.length_map]
    refine w_if2 (fun h1 => ?_) (fun h1 => ?_)
    · have h1 : ((Vaflxa.borders l r bs).length : Int) < (c : Int) := of_decide_eq_true h1
      walk_at "go"
      have e : Vaflxa.placeOf x bs = none := by
        rw [hp]
        split
        · rw [List.getElem?_eq_none_iff, List.length_reverse]
          omega
        · rw [List.getElem?_eq_none_iff]
          omega
      rw [e] at q
      exact q
    · have h1 : ¬ ((Vaflxa.borders l r bs).length : Int) < (c : Int) := of_decide_eq_false h1
      walk_at "go"
      refine w_if2 (fun h2 => ?_) (fun h2 => ?_)
      · subst h2
        walk_at "go"
        rw [List.length_map]
        have hlt : (Vaflxa.borders l r bs).length - c < (Vaflxa.borders l r bs).length := by omega
        have e1 : (Vaflxa.borders l r bs).reverse[c - 1]? = some ((Vaflxa.borders l r bs)[(Vaflxa.borders l r bs).length - c]) := by
          rw [List.getElem?_reverse (by omega)]
          have e3 : (Vaflxa.borders l r bs).length - 1 - (c - 1) = (Vaflxa.borders l r bs).length - c := by omega
          rw [e3]
          exact (List.getElem?_eq_getElem hlt :)
        rw [hp, if_pos rfl, e1] at q
        refine w_ixL hp1 (v := .int (((Vaflxa.borders l r bs)[(Vaflxa.borders l r bs).length - c] : Nat) : Int)) (at_of (j := (Vaflxa.borders l r bs).length - c) (by omega) ?_) ?_
        · rw [List.getElem?_map, List.getElem?_eq_getElem hlt]
          rfl
        · exact q
      · subst h2
        walk_at "go"
        have hlt : c - 1 < (Vaflxa.borders l r bs).length := by omega
        have e1 : (Vaflxa.borders l r bs)[c - 1]? = some ((Vaflxa.borders l r bs)[c - 1]) := List.getElem?_eq_getElem hlt
        rw [hp, if_neg Bool.false_ne_true, e1] at q
        refine w_ixL hp1 (v := .int (((Vaflxa.borders l r bs)[c - 1] : Nat) : Int)) (at_of (j := c - 1) (by omega) ?_) ?_
        · rw [List.getElem?_map, List.getElem?_eq_getElem hlt]
          rfl
        · exact q
  cases x with
  | start k => exact hi.elim
  | finish k => exact hi.elim
  | left l r c =>
    obtain ⟨dx, al, ar, ho, hl, hr, hc, _⟩ := hx
    refine main dx al ar l r c false ho hl hr hc ?_
    show (if c = 0 then none else (Vaflxa.borders l r bs)[c - 1]?) = _
    rw [if_neg (by omega), if_neg Bool.false_ne_true]
  | right l r c =>
    obtain ⟨dx, al, ar, ho, hl, hr, hc, _⟩ := hx
    refine main dx al ar l r c true ho hl hr hc ?_
    show (if c = 0 then none else (Vaflxa.borders l r bs).reverse[c - 1]?) = _
    rw [if_neg (by omega), if_pos rfl]
end
section
variable {K : PySem.W.Frag} {mg : Str → Option Value} {A : Ads}
theorem sign_is (c : UInt8) : Vaflxa.isSign c = (inR 33 126 (some c) && !Vaflxa.inClass .words c) := by
  have e1 : inR 33 126 (some c) = (Vaflxa.isByte c && (c != 32)) := by
    show (decide ((33 : Int) ≤ (c.toNat : Int)) && decide ((c.toNat : Int) ≤ 126)) = ((decide (32 ≤ c) && decide (c ≤ 126)) && (c != 32))
    rw [Bool.eq_iff_iff, Bool.and_eq_true, Bool.and_eq_true, Bool.and_eq_true, decide_eq_true_eq, decide_eq_true_eq, decide_eq_true_eq, decide_eq_true_eq, bne_iff_ne, UInt8.le_iff_toNat_le, UInt8.le_iff_toNat_le, ne_eq, ← UInt8.toNat_inj]
    show ((33 : Int) ≤ (c.toNat : Int) ∧ (c.toNat : Int) ≤ 126) ↔ ((32 ≤ c.toNat ∧ c.toNat ≤ 126) ∧ ¬ c.toNat = 32)
    omega
  rw [e1]
  show (Vaflxa.isByte c && !Vaflxa.isLetter c && !Vaflxa.isDigit c && (c != 32)) = (Vaflxa.isByte c && (c != 32) && !(Vaflxa.isLetter c || Vaflxa.isDigit c))
  cases Vaflxa.isByte c <;> cases Vaflxa.isLetter c <;> cases Vaflxa.isDigit c <;> cases (c != 32) <;> rfl
theorem pure_read_quoted (T : Fx K mg A) (vs : List V) (H : Hp) (Q : VK) (E : XK) (h : sp_read_quoted K A vs H Q E) : t_read_quoted K A E { nx := fun _ H' => Q .non H', rt := Q } (start ["reader", "place", "byte"] vs) H := by
  obtain ⟨_, r, dx, t, bs, p, S, rfl, R, q1, q2⟩ := h
  have hr := R.hr
  unfold t_read_quoted
  walk_at "go"
  refine ⟨rfl, _, _, r, dx, t, bs, p, S, rfl, R, fun x p' v S1 H1 e le1 R1 G1 z => ?_, fun e p' d S1 H1 z R1 G1 hd => ?_⟩
  · obtain ⟨hx, hxr, rfl⟩ := take_ok e
    subst z
    unfold vB
    walk_at "go"
    refine ⟨rfl, _, rfl, fun H2 e2 => ?_⟩
    walk_at "go"
    rw [any_class]
    refine w_if2 (fun h1 => ?_) (fun h1 => ?_)
    · walk_at "go"
      refine RdAt.fault (k := 1) (pl := p) ?_ (R1.same_ e2) (G1.trans (Grow.same_ R1.hS e2)) q2
      rw [drop_some hx]
      unfold quotedAt
      dsimp only
      rw [if_neg (by rw [sign_is, h1, Bool.not_true, Bool.and_false]; exact Bool.false_ne_true)]
      rfl
    · walk_at "go"
      refine w_obj (show 2 ≤ 1000000 by decide) (fun a1 h1' => ?_)
      walk_at "go"
      refine w_obj (show 1 ≤ 1000000 by decide) (fun a2 h2' => ?_)
      have R2 := R1.same_ e2
      obtain ⟨R3, G3⟩ := R2.laid (o := .tup [.int (x.toNat : Int), .int (x.toNat : Int)]) h1'
      obtain ⟨R4, G4⟩ := R3.laid (o := .lst [.ref a1]) h2'
      refine q1 (.sign x) (p + 1) _ _ _ ?_ (Nat.le_succ p) R4 (((G1.trans (Grow.same_ R1.hS e2)).trans G3).trans G4) ⟨a2, rfl, [.ref a1], SqL.of upd_same, .cons ⟨a1, rfl, ?_⟩ .nil⟩
      · rw [drop_some hx]
        unfold quotedAt
        dsimp only
        rw [if_pos (by rw [sign_is, h1, hxr]; rfl)]
      · exact Same.tup G4.up (SqT.of upd_same)
  · obtain ⟨rfl, hx⟩ := take_err z
    refine q2 ⟨1, p⟩ p' d S1 H1 ?_ R1 G1 hd
    cases e3 : bs[p]? with
    | none =>
      rw [drop_none e3]
      rfl
    | some c =>
      rw [e3] at hx
      rw [drop_some e3]
      unfold quotedAt
      dsimp only
      rw [if_neg (by rw [sign_is, hx]; exact Bool.false_ne_true)]
      rfl
theorem cls_39 (p : Nat) (s : List UInt8) : Vaflxa.clsAt (p, 39 :: s) = quotedAt (p + 1, s) := by
  cases s with
  | nil => rfl
  | cons d s => rfl
theorem cls_tab {c : UInt8} {k : Cls} {i p : Nat} (h : classTab[i]? = some (c, k)) (s : List UInt8) : Vaflxa.clsAt (p, c :: s) = .ok (k, (p + 1, s)) := by
  match i, h with
  | 0, h => cases h; rfl
  | 1, h => cases h; rfl
  | 2, h => cases h; rfl
  | 3, h => cases h; rfl
  | 4, h => cases h; rfl
  | 5, h => cases h; rfl
  | 6, h => cases h; rfl
  | i + 7, h => simp [classTab] at h
theorem cls_none {c : UInt8} (p : Nat) (s : List UInt8) (h39 : c ≠ 39) (h : ∀ i, i < 7 → ∀ d k, classTab[i]? = some (d, k) → c ≠ d) : Vaflxa.clsAt (p, c :: s) = .error ⟨1, p⟩ := by
  unfold Vaflxa.clsAt
  dsimp only
  rw [if_neg (h 6 (by decide) _ _ rfl), if_neg (h 0 (by decide) _ _ rfl), if_neg (h 1 (by decide) _ _ rfl), if_neg (h 2 (by decide) _ _ rfl), if_neg (h 3 (by decide) _ _ rfl), if_neg (h 4 (by decide) _ _ rfl), if_neg (h 5 (by decide) _ _ rfl), if_neg h39]
  rfl
theorem pure_read_class (T : Fx K mg A) (B : Tabs K A) (vs : List V) (H : Hp) (Q : VK) (E : XK) (h : sp_read_class K A vs H Q E) : t_read_class K A E { nx := fun _ H' => Q .non H', rt := Q } (start ["reader", "sign", "spans"] vs) H := by
  obtain ⟨_, r, dx, t, bs, p, S, rfl, R, q1, q2⟩ := h
  have hr := R.hr
  unfold t_read_class
  walk_at "lits"
  walk_at "go"
  refine ⟨rfl, r, dx, t, bs, p, _, S, rfl, R, fun h39 H1 R1 G1 => ?_, fun h39 => ?_⟩
  · have e39 : ∀ a, Vaflxa.clsAt (p, bs.drop p) = a ↔ quotedAt (p + 1, bs.drop (p + 1)) = a := by
      intro a
      rw [drop_some h39, cls_39]
    walk_at "go"
    refine ⟨rfl, r, dx, t, bs, p + 1, S, rfl, R1, fun x p' v S2 H2 e le2 R2 G2 z => ?_, fun e p' d S2 H2 z R2 G2 hd => ?_⟩
    · exact q1 x p' v S2 H2 ((e39 _).mpr e) (by omega) R2 (G1.trans G2) z
    · exact q2 e p' d S2 H2 ((e39 _).mpr z) R2 (G1.trans G2) hd
  · walk_at "go"
    obtain ⟨xs, hw, hp⟩ := B.cls
    refine w_isfort (xs := xs) (fun i σ H' => H' = H ∧ (∀ j, j < i → ∀ d k, classTab[j]? = some (d, k) → bs[p]? ≠ some d) ∧ ∃ v1 v2, σ = [some (.ref r), v1, v2]) hw.at ⟨rfl, fun j hj => absurd hj (Nat.not_lt_zero j), none, none, rfl⟩ (fun i σ H' _ z => by rw [z.1]; exact hw.at) ?_ ?_
    · rintro i x σ H' hi ⟨rfl, hno, v1, v2, rfl⟩
      obtain ⟨⟨c, k⟩, hy, a, b, rfl, wa, xs2, wb, pb⟩ := Paired.get' hp hi
      refine w_gtup2 wa.at ?_
      walk_at "go"
      refine ⟨rfl, r, dx, t, bs, p, c, S, rfl, R, fun hc H1 R1 G1 => ?_, fun hc => ?_⟩
      · walk_at "go"
        refine w_list (Or.inr wb.at) (fun l hl => ?_)
        obtain ⟨R2, G2⟩ := R1.laid (o := .lst xs2) hl
        refine q1 k (p + 1) _ _ _ ?_ (Nat.le_succ p) R2 (G1.trans G2) ⟨l, rfl, WrSpans.new pb⟩
        rw [drop_some hc, cls_tab hy]
      · walk_at "go"
        refine ⟨rfl, fun j hj d k' hd => ?_, _, _, rfl⟩
        by_cases hji : j = i
        · subst hji
          have z := hy.symm.trans hd
          cases z
          exact hc
        · exact hno j (by omega) d k' hd
    · rintro σ H' ⟨rfl, hno, v1, v2, rfl⟩
      walk_at "go"
      have hlen : xs.length = 7 := Paired.len hp
      rw [hlen] at hno
      refine RdAt.fault (k := 1) (pl := p) ?_ R (Grow.refl R.hS) q2
      cases e3 : bs[p]? with
      | none =>
        rw [drop_none e3]
        rfl
      | some c =>
        rw [drop_some e3]
        rw [e3] at hno h39
        exact cls_none p _ (fun z => h39 (by rw [z])) fun i hi d k hd z => hno i hi d k hd (by rw [z])
end
section
variable {K : PySem.W.Frag} {mg : Str → Option Value} {A : Ads}
theorem need_ok {c : UInt8} {bs : List UInt8} {p p' : Nat} {x : Unit} (h : needAt c (p, bs.drop p) = .ok (x, (p', bs.drop p'))) : Vaflxa.expect c (p, bs.drop p) = .ok (p', bs.drop p') := by
  unfold needAt at h
  cases e : Vaflxa.expect c (p, bs.drop p) with
  | error z => rw [e] at h; cases h
  | ok b =>
    rw [e] at h
    injection h with h
    injection h with _ h
    rw [h]
theorem need_err {c : UInt8} {a : At} {e : Vaflxa.Fault} (h : needAt c a = .error e) : Vaflxa.expect c a = .error e := by
  unfold needAt at h
  cases e2 : Vaflxa.expect c a with
  | error z => rw [e2] at h; injection h with h; rw [h]
  | ok b => rw [e2] at h; cases h
theorem expect_ok {c : UInt8} {bs : List UInt8} {p p' : Nat} (h : Vaflxa.expect c (p, bs.drop p) = .ok (p', bs.drop p')) : bs[p]? = some c ∧ p' = p + 1 := by
  cases e : bs[p]? with
  | none => rw [drop_none e] at h; cases h
  | some d =>
    rw [drop_some e] at h
    unfold Vaflxa.expect at h
    dsimp only at h
    by_cases hd : d = c
    · rw [if_pos hd] at h
      injection h with h
      injection h with h _
      exact ⟨by rw [hd], h.symm⟩
    · rw [if_neg hd] at h
      cases h
theorem expect_err {c : UInt8} {bs : List UInt8} {p : Nat} {e : Vaflxa.Fault} (h : Vaflxa.expect c (p, bs.drop p) = .error e) : bs[p]? ≠ some c ∧ e = ⟨1, p⟩ := by
  cases e2 : bs[p]? with
  | none =>
    rw [drop_none e2] at h
    injection h with h
    exact ⟨(fun z => nomatch z), h.symm⟩
  | some d =>
    rw [drop_some e2] at h
    unfold Vaflxa.expect at h
    dsimp only at h
    by_cases hd : d = c
    · rw [if_pos hd] at h
      cases h
    · rw [if_neg hd] at h
      unfold Vaflxa.fault at h
      injection h with h
      exact ⟨fun z => hd (Option.some.inj z), h.symm⟩
theorem counted_43 (l r : Cls) {bs : List UInt8} {p : Nat} (h : bs[p]? = some 43) : Vaflxa.countedAt l r (p, bs.drop p) = match Vaflxa.numberAt 1 40 (p + 1, bs.drop (p + 1)) with
    | .error e => .error e
    | .ok (n, b) => .ok (.left l r n, b) := by
  rw [drop_some h]
  rfl
theorem counted_45 (l r : Cls) {bs : List UInt8} {p : Nat} (h : bs[p]? = some 45) : Vaflxa.countedAt l r (p, bs.drop p) = match Vaflxa.numberAt 1 40 (p + 1, bs.drop (p + 1)) with
    | .error e => .error e
    | .ok (n, b) => .ok (.right l r n, b) := by
  rw [drop_some h]
  rfl
theorem counted_no (l r : Cls) {bs : List UInt8} {p : Nat} (h : bs[p]? ≠ some 43) (h2 : bs[p]? ≠ some 45) : Vaflxa.countedAt l r (p, bs.drop p) = .error ⟨1, p⟩ := by
  unfold Vaflxa.countedAt
  split
  · rename_i s heq
    cases e : bs[p]? with
    | none =>
      have z : bs.drop p = 43 :: s := heq
      rw [drop_none e] at z
      cases z
    | some c =>
      have z : bs.drop p = 43 :: s := heq
      rw [drop_some e] at z
      injection z with z _
      rw [z] at e
      exact absurd e h
  · rename_i s heq
    cases e : bs[p]? with
    | none =>
      have z : bs.drop p = 45 :: s := heq
      rw [drop_none e] at z
      cases z
    | some c =>
      have z : bs.drop p = 45 :: s := heq
      rw [drop_some e] at z
      injection z with z _
      rw [z] at e
      exact absurd e h2
  · rfl
theorem pos_43 {bs : List UInt8} {p : Nat} (h : bs[p]? = some 43) : Vaflxa.posAt (p, bs.drop p) = match Vaflxa.numberAt 0 60 (p + 1, bs.drop (p + 1)) with
    | .error e => .error e
    | .ok (n, b) => .ok (.start n, b) := by
  rw [drop_some h]
  rfl
theorem pos_45 {bs : List UInt8} {p : Nat} (h : bs[p]? = some 45) : Vaflxa.posAt (p, bs.drop p) = match Vaflxa.numberAt 0 60 (p + 1, bs.drop (p + 1)) with
    | .error e => .error e
    | .ok (n, b) => .ok (.finish n, b) := by
  rw [drop_some h]
  rfl
theorem pos_no {bs : List UInt8} {p : Nat} (h : bs[p]? ≠ some 43) (h2 : bs[p]? ≠ some 45) : Vaflxa.posAt (p, bs.drop p) = Vaflxa.borderAt (p, bs.drop p) := by
  unfold Vaflxa.posAt
  split
  · rename_i s heq
    cases e : bs[p]? with
    | none =>
      have z : bs.drop p = 43 :: s := heq
      rw [drop_none e] at z
      cases z
    | some c =>
      have z : bs.drop p = 43 :: s := heq
      rw [drop_some e] at z
      injection z with z _
      rw [z] at e
      exact absurd e h
  · rename_i s heq
    cases e : bs[p]? with
    | none =>
      have z : bs.drop p = 45 :: s := heq
      rw [drop_none e] at z
      cases z
    | some c =>
      have z : bs.drop p = 45 :: s := heq
      rw [drop_some e] at z
      injection z with z _
      rw [z] at e
      exact absurd e h2
  · rfl
/-- a new instance that never changes -/
theorem RdAt.inst {S H : Hp} {r dx t : Addr} {bs : List UInt8} {p : Nat} {x d C : Addr} {fs : List (Str × V)} (R : RdAt A S H r dx t bs p) (hx : H x = none) (hd : H d = none) (hne : d ≠ x) :
    RdAt A (upd (upd S d (.own x)) x (.ins C d fs)) (upd (upd H d (.own x)) x (.ins C d fs)) r dx t bs p ∧ Grow (fun b => b = r) S H (upd (upd S d (.own x)) x (.ins C d fs)) (upd (upd H d (.own x)) x (.ins C d fs)) := by
  obtain ⟨R1, G1⟩ := R.laid (o := .own x) hd
  obtain ⟨R2, G2⟩ := R1.laid (o := .ins C d fs) (d := x) (by rw [upd_ne (Ne.symm hne)]; exact hx)
  exact ⟨R2, G1.trans G2⟩
theorem spans_sq {S H : Hp} {a : Addr} {k : Cls} (h : SpansAt K S a (spans k)) (e : Same S H) : ∃ xs, SqL K H a xs ∧ xs.isEmpty = Vaflxa.isEmptyClass k := by
  obtain ⟨xs, hx, hp⟩ := h
  exact ⟨xs, e.seq hx, by rw [← spans_nil]; exact paired_emp hp⟩
theorem pure_read_border (T : Fx K mg A) (vs : List V) (H : Hp) (Q : VK) (E : XK) (h : sp_read_border K A vs H Q E) : t_read_border K A E { nx := fun _ H' => Q .non H', rt := Q } (start ["reader", "start", "left", "right"] vs) H := by
  obtain ⟨_, r, dx, t, bs, p, S, rfl, R, q1, q2⟩ := h
  have hr := R.hr
  unfold t_read_border
  walk_at "lits"
  walk_at "go"
  refine ⟨rfl, r, dx, t, bs, p, S, rfl, R, fun l p1 v S1 H1 e1 le1 R1 G1 z1 => ?_, fun e p1 d S1 H1 z R1 G1 hd => q2 e p1 d S1 H1 (by unfold Vaflxa.borderAt; rw [z]) R1 G1 hd⟩
  obtain ⟨al, rfl, hal⟩ := z1
  have hr1 := R1.hr
  walk_at "go"
  refine ⟨rfl, _, r, dx, t, bs, p1, S1, rfl, R1, fun _ p2 v S2 H2 e2 le2 R2 G2 z2 => ?_, fun e p2 d S2 H2 z R2 G2 hd => q2 e p2 d S2 H2 (by unfold Vaflxa.borderAt; rw [e1]; dsimp only; rw [need_err z]) R2 (G1.trans G2) hd⟩
  have e2 := need_ok e2
  have hr2 := R2.hr
  walk_at "go"
  refine ⟨rfl, r, dx, t, bs, p2, S2, rfl, R2, fun k p3 v S3 H3 e3 le3 R3 G3 z3 => ?_, fun e p3 d S3 H3 z R3 G3 hd => q2 e p3 d S3 H3 (by unfold Vaflxa.borderAt; rw [e1]; dsimp only; rw [e2]; dsimp only; rw [z]) R3 ((G1.trans G2).trans G3) hd⟩
  obtain ⟨ar, rfl, har⟩ := z3
  have hr3 := R3.hr
  have G13 := (G1.trans G2).trans G3
  have hal3 : SpansAt K S3 al (spans l) := (hal.mono G2.up).mono G3.up
  obtain ⟨xl, sl, el⟩ := spans_sq hal3 R3.hS
  obtain ⟨xr, sr, er⟩ := spans_sq har R3.hS
  have key : Vaflxa.borderAt (p, bs.drop p) = if Vaflxa.isEmptyClass l && Vaflxa.isEmptyClass k then .error ⟨4, p⟩ else Vaflxa.countedAt l k (p3, bs.drop p3) := by
    unfold Vaflxa.borderAt
    rw [e1]
    dsimp only
    rw [e2]
    dsimp only
    rw [e3]
    rfl
  have rest : (Vaflxa.isEmptyClass l && Vaflxa.isEmptyClass k) = false → (tSeq (tIfS (tB (tMet A.c_Reader "skip" (sp_Reader_skip K A) E0 (tVar 0) (tCons (tC (.str (sg 43))) tNil))) (tRet (tNew A.c_Border 4 fo_Border (tCons (tVar 2) (tCons (tVar 3) (tCons (tDef (sp_read_number K A) E (tCons (tVar 0) (tCons (tC (.int 1)) (tCons (tC (.int 40)) tNil)))) (tCons (tC (.bl false)) tNil)))))) tNext) (tSeq (tDrop (tMet A.c_Reader "need" (sp_Reader_need K A) E (tVar 0) (tCons (tC (.str (sg 45))) tNil))) (tRet (tNew A.c_Border 4 fo_Border (tCons (tVar 2) (tCons (tVar 3) (tCons (tDef (sp_read_number K A) E (tCons (tVar 0) (tCons (tC (.int 1)) (tCons (tC (.int 40)) tNil)))) (tCons (tC (.bl true)) tNil)))))))) { nx := fun _ H' => Q .non H', rt := Q } [some (.ref r), some (.int (p : Nat)), some (.ref al), some (.ref ar)] H3 := by
    intro hne
    rw [hne, if_neg Bool.false_ne_true] at key
    walk_at "go"
    refine ⟨rfl, r, dx, t, bs, p3, _, S3, rfl, R3, fun h43 H4 R4 G4 => ?_, fun h43 => ?_⟩
    · rw [counted_43 l k h43] at key
      walk_at "go"
      refine ⟨rfl, 1, 40, r, dx, t, bs, p3 + 1, S3, rfl, R4, fun n p5 v S5 H5 e5 le5 R5 G5 z5 => ?_, fun e p5 d S5 H5 z R5 G5 hd => q2 e p5 d S5 H5 (by rw [key, z]) R5 ((G13.trans G4).trans G5) hd⟩
      obtain ⟨rfl, hn1, hn2⟩ := z5
      walk_at "go"
      refine w_new rfl (fun x d hx hd hne => ?_)
      obtain ⟨R6, G6⟩ := R5.inst (C := A.c_Border) (fs := fo_Border [.ref al, .ref ar, .int (n : Nat), .bl false]) hx hd hne
      refine q1 (.left l k n) p5 _ _ _ ?_ (by omega) R6 (((G13.trans G4).trans G5).trans G6) ⟨x, rfl, d, al, ar, upd_same, hal3.mono ((G4.trans G5).trans G6).up, har.mono ((G4.trans G5).trans G6).up, hn1, hn2⟩
      rw [key, e5]
    · walk_at "go"
      refine ⟨rfl, _, r, dx, t, bs, p3, S3, rfl, R3, fun _ p4 v S4 H4 e4 le4 R4 G4 z4 => ?_, fun e p4 d S4 H4 z R4 G4 hd => ?_⟩
      · obtain ⟨h45, rfl⟩ := expect_ok (need_ok e4)
        have hr4 := R4.hr
        rw [counted_45 l k h45] at key
        walk_at "go"
        refine ⟨rfl, 1, 40, r, dx, t, bs, p3 + 1, S4, rfl, R4, fun n p5 v S5 H5 e5 le5 R5 G5 z5 => ?_, fun e p5 d S5 H5 z R5 G5 hd => q2 e p5 d S5 H5 (by rw [key, z]) R5 ((G13.trans G4).trans G5) hd⟩
        obtain ⟨rfl, hn1, hn2⟩ := z5
        walk_at "go"
        refine w_new rfl (fun x d hx hd hne => ?_)
        obtain ⟨R6, G6⟩ := R5.inst (C := A.c_Border) (fs := fo_Border [.ref al, .ref ar, .int (n : Nat), .bl true]) hx hd hne
        refine q1 (.right l k n) p5 _ _ _ ?_ (by omega) R6 (((G13.trans G4).trans G5).trans G6) ⟨x, rfl, d, al, ar, upd_same, hal3.mono ((G4.trans G5).trans G6).up, har.mono ((G4.trans G5).trans G6).up, hn1, hn2⟩
        rw [key, e5]
      · obtain ⟨h45, rfl⟩ := expect_err (need_err z)
        exact q2 ⟨1, p3⟩ p4 d S4 H4 (by rw [key, counted_no l k h43 h45]) R4 (G13.trans G4) hd
  walk_at "go"
  rw [el]
  have bad : (Vaflxa.isEmptyClass l && Vaflxa.isEmptyClass k) = true → IsErr A.c_Fault 2 PySem.OeX.fo_Fault [.int 4, .int (p : Nat)] H3 E := fun hc =>
    RdAt.fault (k := 4) (pl := p) (by rw [key, hc, if_pos rfl]) R3 G13 q2
  refine w_if2 (fun h1 => ?_) (fun h1 => ?_)
  · have h1 : Vaflxa.isEmptyClass l = true := by simpa using h1
    walk_at "go"
    rw [er]
    refine w_if2 (fun h2 => ?_) (fun h2 => ?_)
    · have h2 : Vaflxa.isEmptyClass k = true := by simpa using h2
      walk_at "go"
      exact bad (by rw [h1, h2]; rfl)
    · have h2 : Vaflxa.isEmptyClass k = false := by simpa using h2
      refine w_next ?_
      exact rest (by rw [h2, Bool.and_false])
  · have h1 : Vaflxa.isEmptyClass l = false := by simpa using h1
    refine w_ifF ?_
    refine w_next ?_
    exact rest (by rw [h1, Bool.false_and])
theorem pure_read_position (T : Fx K mg A) (vs : List V) (H : Hp) (Q : VK) (E : XK) (h : sp_read_position K A vs H Q E) : t_read_position K A E { nx := fun _ H' => Q .non H', rt := Q } (start ["reader"] vs) H := by
  obtain ⟨_, r, dx, t, bs, p, S, rfl, R, q1, q2⟩ := h
  have hr := R.hr
  unfold t_read_position
  walk_at "lits"
  walk_at "go"
  refine ⟨rfl, r, dx, t, bs, p, _, S, rfl, R, fun h43 H1 R1 G1 => ?_, fun h43 => ?_⟩
  · have key := pos_43 h43
    walk_at "go"
    refine ⟨rfl, 0, 60, r, dx, t, bs, p + 1, S, rfl, R1, fun n p5 v S5 H5 e5 le5 R5 G5 z5 => ?_, fun e p5 d S5 H5 z R5 G5 hd => q2 e p5 d S5 H5 (by rw [key, z]) R5 (G1.trans G5) hd⟩
    obtain ⟨rfl, hn1, hn2⟩ := z5
    walk_at "go"
    refine w_new rfl (fun x d hx hd hne => ?_)
    obtain ⟨R6, G6⟩ := R5.inst (C := A.c_FromStart) (fs := fo_FromStart [.int (n : Nat)]) hx hd hne
    exact q1 (.start n) p5 _ _ _ (by rw [key, e5]) (by omega) R6 ((G1.trans G5).trans G6) ⟨x, rfl, d, upd_same, hn2⟩
  · walk_at "go"
    refine ⟨rfl, r, dx, t, bs, p, _, S, rfl, R, fun h45 H1 R1 G1 => ?_, fun h45 => ?_⟩
    · have key := pos_45 h45
      walk_at "go"
      refine ⟨rfl, 0, 60, r, dx, t, bs, p + 1, S, rfl, R1, fun n p5 v S5 H5 e5 le5 R5 G5 z5 => ?_, fun e p5 d S5 H5 z R5 G5 hd => q2 e p5 d S5 H5 (by rw [key, z]) R5 (G1.trans G5) hd⟩
      obtain ⟨rfl, hn1, hn2⟩ := z5
      walk_at "go"
      refine w_new rfl (fun x d hx hd hne => ?_)
      obtain ⟨R6, G6⟩ := R5.inst (C := A.c_FromEnd) (fs := fo_FromEnd [.int (n : Nat)]) hx hd hne
      exact q1 (.finish n) p5 _ _ _ (by rw [key, e5]) (by omega) R6 ((G1.trans G5).trans G6) ⟨x, rfl, d, upd_same, hn2⟩
    · walk_at "go"
      have key := pos_no h43 h45
      refine ⟨rfl, r, dx, t, bs, p, S, rfl, R, fun x p5 v S5 H5 e5 le5 R5 G5 z5 => ?_, fun e p5 d S5 H5 z R5 G5 hd => q2 e p5 d S5 H5 (by rw [key, z]) R5 G5 hd⟩
      exact q1 x p5 v S5 H5 (by rw [key, e5]) le5 R5 G5 z5
theorem case_no {bs : List UInt8} {p : Nat} (h1 : bs[p]? ≠ some 94) (h2 : bs[p]? ≠ some 95) (h3 : bs[p]? ≠ some 126) : Vaflxa.caseAt (p, bs.drop p) = (.same, (p, bs.drop p)) := by
  cases e : bs[p]? with
  | none => rw [drop_none e]; rfl
  | some c =>
    rw [e] at h1 h2 h3
    rw [drop_some e]
    unfold Vaflxa.caseAt
    split
    · rename_i s heq
      injection heq with z _
      exact absurd (by rw [z]) h1
    · rename_i s heq
      injection heq with z _
      exact absurd (by rw [z]) h2
    · rename_i s heq
      injection heq with z _
      exact absurd (by rw [z]) h3
    · rfl
theorem pure_read_turn (T : Fx K mg A) (vs : List V) (H : Hp) (Q : VK) (E : XK) (h : sp_read_turn K A vs H Q E) : t_read_turn K A E { nx := fun _ H' => Q .non H', rt := Q } (start ["reader", "sign"] vs) H := by
  obtain ⟨_, r, dx, t, bs, p, S, rfl, R, q⟩ := h
  have hr := R.hr
  unfold t_read_turn
  walk_at "lits"
  walk_at "go"
  refine w_obj (show 3 ≤ 1000000 by decide) (fun a ha => ?_)
  obtain ⟨R0, G0⟩ := R.made (o := .tup [.str (sg 94), .str (sg 95), .str (sg 126)]) ha
  have hr0 := R0.hr
  refine w_isfort (xs := [.str (sg 94), .str (sg 95), .str (sg 126)]) (fun i σ H' => H' = upd H a (.tup [.str (sg 94), .str (sg 95), .str (sg 126)]) ∧ (1 ≤ i → bs[p]? ≠ some 94) ∧ (2 ≤ i → bs[p]? ≠ some 95) ∧ (3 ≤ i → bs[p]? ≠ some 126) ∧ ∃ v1, σ = [some (.ref r), v1]) (SqT.of upd_same)
    ⟨rfl, fun z => absurd z (by decide), fun z => absurd z (by decide), fun z => absurd z (by decide), none, rfl⟩ (fun i σ H' _ z => by rw [z.1]; exact SqT.of upd_same) ?_ ?_
  · rintro i x σ H' hi ⟨rfl, n1, n2, n3, v1, rfl⟩
    have turn : ∀ (c : UInt8) (k : Case), x = .str (sg c) → sg c = caseStr k → (∀ s, Vaflxa.caseAt (p, c :: s) = (k, (p + 1, s))) → (bs[p]? ≠ some c → (1 ≤ i + 1 → bs[p]? ≠ some 94) ∧ (2 ≤ i + 1 → bs[p]? ≠ some 95) ∧ (3 ≤ i + 1 → bs[p]? ≠ some 126)) →
        gName 1 x [some (.ref r), v1] (upd H a (.tup [.str (sg 94), .str (sg 95), .str (sg 126)])) fun σ2 H2 => (tIfS (tB (tMet A.c_Reader "skip" (sp_Reader_skip K A) E0 (tVar 0) (tCons (tVar 1) tNil))) (tRet (tVar 1)) tNext) { nx := fun σ H' => H' = upd H a (.tup [.str (sg 94), .str (sg 95), .str (sg 126)]) ∧ (1 ≤ i + 1 → bs[p]? ≠ some 94) ∧ (2 ≤ i + 1 → bs[p]? ≠ some 95) ∧ (3 ≤ i + 1 → bs[p]? ≠ some 126) ∧ ∃ v1, σ = [some (.ref r), v1], rt := Q } σ2 H2 := by
      rintro c k rfl hs hk hno
      walk_at "go"
      refine ⟨rfl, r, dx, t, bs, p, _, S, rfl, R0, fun hc H1 R1 G1 => ?_, fun hc => ?_⟩
      · walk_at "go"
        rw [hs]
        exact q k (p + 1) S H1 (by rw [drop_some hc, hk]) (Nat.le_succ p) R1 (G0.trans G1)
      · walk_at "go"
        obtain ⟨m1, m2, m3⟩ := hno hc
        exact ⟨rfl, m1, m2, m3, _, rfl⟩
    match i, hi with
    | 0, hi => exact turn 94 .up (Option.some.inj hi).symm lit_94.symm (fun _ => rfl) fun z => ⟨fun _ => z, fun y => absurd y (by decide), fun y => absurd y (by decide)⟩
    | 1, hi => exact turn 95 .low (Option.some.inj hi).symm lit_95.symm (fun _ => rfl) fun z => ⟨fun _ => n1 (by decide), fun _ => z, fun y => absurd y (by decide)⟩
    | 2, hi => exact turn 126 .first (Option.some.inj hi).symm lit_126.symm (fun _ => rfl) fun z => ⟨fun _ => n1 (by decide), fun _ => n2 (by decide), fun _ => z⟩
    | i + 3, hi => simp at hi
  · rintro σ H' ⟨rfl, n1, n2, n3, v1, rfl⟩
    walk_at "go"
    exact q .same p S _ (case_no (n1 (by decide)) (n2 (by decide)) (n3 (by decide))) (Nat.le_refl p) R0 G0
end
section
variable {K : PySem.W.Frag} {mg : Str → Option Value} {A : Ads}
theorem field_in (c : UInt8) : inR 49 52 (some c) = true ↔ (49 ≤ c ∧ c ≤ 52) := by
  show (decide ((49 : Int) ≤ (c.toNat : Int)) && decide ((c.toNat : Int) ≤ 52)) = true ↔ _
  rw [Bool.and_eq_true, decide_eq_true_eq, decide_eq_true_eq, UInt8.le_iff_toNat_le, UInt8.le_iff_toNat_le]
  show ((49 : Int) ≤ (c.toNat : Int) ∧ (c.toNat : Int) ≤ 52) ↔ (49 ≤ c.toNat ∧ c.toNat ≤ 52)
  omega
theorem part_ok {bs : List UInt8} {p : Nat} {c : UInt8} (h : bs[p]? = some c) (hc : inR 49 52 (some c) = true) : partAt (p, bs.drop p) = Vaflxa.placesAt (c.toNat - 48) (p + 1, bs.drop (p + 1)) := by
  rw [drop_some h]
  unfold partAt
  dsimp only
  rw [if_pos ((field_in c).mp hc)]
theorem part_no {bs : List UInt8} {p : Nat} (h : inR 49 52 bs[p]? = false) : partAt (p, bs.drop p) = .error ⟨1, p⟩ := by
  cases e : bs[p]? with
  | none => rw [drop_none e]; rfl
  | some c =>
    rw [e] at h
    rw [drop_some e]
    unfold partAt
    dsimp only
    rw [if_neg (fun z => by rw [(field_in c).mpr z] at h; cases h)]
    rfl
theorem places_is {f : Nat} {a b c d g h i : At} {p q : Vaflxa.Pos} {k : Case} (h1 : Vaflxa.expect 91 a = .ok b) (h2 : Vaflxa.posAt b = .ok (p, c)) (h3 : Vaflxa.expect 58 c = .ok d) (h4 : Vaflxa.posAt d = .ok (q, g)) (h5 : Vaflxa.expect 93 g = .ok h) (h6 : Vaflxa.caseAt h = (k, i)) :
    Vaflxa.placesAt f a = .ok (.sub f p q k, i) := by
  unfold Vaflxa.placesAt
  simp only [h1, h2, h3, h4, h5, h6]
theorem pure_read_part (T : Fx K mg A) (vs : List V) (H : Hp) (Q : VK) (E : XK) (h : sp_read_part K A vs H Q E) : t_read_part K A E { nx := fun _ H' => Q .non H', rt := Q } (start ["reader", "field", "first", "last"] vs) H := by
  obtain ⟨_, r, dx, t, bs, p, S, rfl, R, q1, q2⟩ := h
  have hr := R.hr
  unfold t_read_part
  walk_at "lits"
  walk_at "go"
  refine ⟨rfl, _, _, r, dx, t, bs, p, S, rfl, R, fun c p1 v S1 H1 e1 le1 R1 G1 z1 => ?_, fun e p1 d S1 H1 z R1 G1 hd => ?_⟩
  · obtain ⟨hc, hcr, rfl⟩ := take_ok e1
    have hcr : inR 49 52 (some c) = true := hcr
    have key := part_ok hc hcr
    have hf := (field_in c).mp hcr
    have hf1 : 49 ≤ c.toNat := UInt8.le_iff_toNat_le.mp hf.1
    have hf2 : c.toNat ≤ 52 := UInt8.le_iff_toNat_le.mp hf.2
    subst z1
    have hr1 := R1.hr
    unfold vB
    walk_at "go"
    refine ⟨rfl, _, r, dx, t, bs, p + 1, S1, rfl, R1, fun _ p2 v S2 H2 e2 le2 R2 G2 z2 => ?_, fun e p2 d S2 H2 z R2 G2 hd => q2 e p2 d S2 H2 (by rw [key]; unfold Vaflxa.placesAt; rw [need_err z]) R2 (G1.trans G2) hd⟩
    have e2 := need_ok e2
    have hr2 := R2.hr
    walk_at "go"
    refine ⟨rfl, r, dx, t, bs, p2, S2, rfl, R2, fun x p3 v S3 H3 e3 le3 R3 G3 z3 => ?_, fun e p3 d S3 H3 z R3 G3 hd => q2 e p3 d S3 H3 (by rw [key]; unfold Vaflxa.placesAt; simp only [e2, z]) R3 ((G1.trans G2).trans G3) hd⟩
    obtain ⟨ax, rfl, hx⟩ := z3
    have hr3 := R3.hr
    walk_at "go"
    refine ⟨rfl, _, r, dx, t, bs, p3, S3, rfl, R3, fun _ p4 v S4 H4 e4 le4 R4 G4 z4 => ?_, fun e p4 d S4 H4 z R4 G4 hd => q2 e p4 d S4 H4 (by rw [key]; unfold Vaflxa.placesAt; simp only [e2, e3, need_err z]) R4 (((G1.trans G2).trans G3).trans G4) hd⟩
    have e4 := need_ok e4
    have hr4 := R4.hr
    walk_at "go"
    refine ⟨rfl, r, dx, t, bs, p4, S4, rfl, R4, fun y p5 v S5 H5 e5 le5 R5 G5 z5 => ?_, fun e p5 d S5 H5 z R5 G5 hd => q2 e p5 d S5 H5 (by rw [key]; unfold Vaflxa.placesAt; simp only [e2, e3, e4, z]) R5 ((((G1.trans G2).trans G3).trans G4).trans G5) hd⟩
    obtain ⟨ay, rfl, hy⟩ := z5
    have hr5 := R5.hr
    walk_at "go"
    refine ⟨rfl, _, r, dx, t, bs, p5, S5, rfl, R5, fun _ p6 v S6 H6 e6 le6 R6 G6 z6 => ?_, fun e p6 d S6 H6 z R6 G6 hd => q2 e p6 d S6 H6 (by rw [key]; unfold Vaflxa.placesAt; simp only [e2, e3, e4, e5, need_err z]) R6 (((((G1.trans G2).trans G3).trans G4).trans G5).trans G6) hd⟩
    have e6 := need_ok e6
    have hr6 := R6.hr
    walk_at "go"
    refine ⟨rfl, r, dx, t, bs, p6, S6, rfl, R6, fun k p7 S7 H7 e7 le7 R7 G7 => ?_⟩
    walk_at "go"
    refine w_new rfl (fun a d ha hd hne => ?_)
    have ef : (c.toNat : Int) - 48 = ((c.toNat - 48 : Nat) : Int) := by omega
    obtain ⟨R8, G8⟩ := R7.inst (C := A.c_Part) (fs := fo_Part [.int ((c.toNat : Int) - 48), .ref ax, .ref ay, .str (caseStr k)]) ha hd hne
    refine q1 (.sub (c.toNat - 48) x y k) p7 _ _ _ ?_ (by omega) R8 (((((((G1.trans G2).trans G3).trans G4).trans G5).trans G6).trans G7).trans G8)
      ⟨a, rfl, d, ax, ay, ?_, hx.mono ((((G4.trans G5).trans G6).trans G7).trans G8).up, hy.mono ((G6.trans G7).trans G8).up, by omega, by omega⟩
    · rw [key]
      exact places_is e2 e3 e4 e5 e6 e7
    · rw [upd_same, ← ef]
      rfl
  · obtain ⟨rfl, hx⟩ := take_err z
    exact q2 ⟨1, p⟩ p1 d S1 H1 (part_no hx) R1 G1 hd
theorem piece_34 {bs : List UInt8} {p : Nat} (h : bs[p]? = some 34) : Vaflxa.pieceAt (p, bs.drop p) = const34 (p, bs.drop p) := by
  rw [drop_some h]
  rfl
theorem piece_no {bs : List UInt8} {p : Nat} (h : bs[p]? ≠ some 34) : Vaflxa.pieceAt (p, bs.drop p) = partAt (p, bs.drop p) := by
  cases e : bs[p]? with
  | none => rw [drop_none e]; rfl
  | some c =>
    rw [drop_some e]
    unfold Vaflxa.pieceAt partAt
    dsimp only
    rw [if_neg (fun z => h (by rw [e, z]))]
    rfl
theorem pure_read_piece (T : Fx K mg A) (vs : List V) (H : Hp) (Q : VK) (E : XK) (h : sp_read_piece K A vs H Q E) : t_read_piece K A E { nx := fun _ H' => Q .non H', rt := Q } (start ["reader"] vs) H := by
  obtain ⟨_, r, dx, t, bs, p, S, rfl, R, q1, q2⟩ := h
  have hr := R.hr
  unfold t_read_piece
  walk_at "lits"
  walk_at "go"
  refine ⟨rfl, r, dx, t, bs, p, _, S, rfl, R, ?_⟩
  walk_at "go"
  refine w_if2 (fun h1 => ?_) (fun h1 => ?_)
  · have key := piece_34 (of_decide_eq_true h1)
    walk_at "go"
    exact ⟨rfl, r, dx, t, bs, p, S, rfl, R, fun x p1 v S1 H1 e1 le1 R1 G1 z1 => q1 x p1 v S1 H1 (by rw [key, e1]) le1 R1 G1 z1, fun e p1 d S1 H1 z R1 G1 hd => q2 e p1 d S1 H1 (by rw [key, z]) R1 G1 hd⟩
  · have key := piece_no (of_decide_eq_false h1)
    walk_at "go"
    exact ⟨rfl, r, dx, t, bs, p, S, rfl, R, fun x p1 v S1 H1 e1 le1 R1 G1 z1 => q1 x p1 v S1 H1 (by rw [key, e1]) le1 R1 G1 z1, fun e p1 d S1 H1 z R1 G1 hd => q2 e p1 d S1 H1 (by rw [key, z]) R1 G1 hd⟩
theorem byte_in (c : UInt8) : inR 32 126 (some c) = Vaflxa.isByte c := by
  show (decide ((32 : Int) ≤ (c.toNat : Int)) && decide ((c.toNat : Int) ≤ 126)) = (decide (32 ≤ c) && decide (c ≤ 126))
  exact btw 32 126 c
theorem cf_two (n : Nat) (got : List UInt8) (p : Nat) (s : List UInt8) : Vaflxa.constFrom (n + 1) got (p, 34 :: 34 :: s) = Vaflxa.constFrom n (34 :: got) (p + 2, s) := rfl
theorem cf_end (n : Nat) (got : List UInt8) (p : Nat) {s : List UInt8} (h : s.head? ≠ some 34) : Vaflxa.constFrom (n + 1) got (p, 34 :: s) = .ok (got.reverse, (p + 1, s)) := by
  cases s with
  | nil => rfl
  | cons c s =>
    rw [Vaflxa.constFrom]
    dsimp only
    split
    · rename_i heq
      cases heq
    · rename_i heq
      injection heq with _ z
      subst z
      split
      · rename_i heq
        injection heq with z _
        exact absurd (by rw [z]; rfl) h
      · rfl
    · rename_i hne heq
      injection heq with z _
      exact (hne z.symm).elim
theorem cf_byte (n : Nat) (got : List UInt8) (p : Nat) {c : UInt8} (s : List UInt8) (h : c ≠ 34) (hb : Vaflxa.isByte c = true) : Vaflxa.constFrom (n + 1) got (p, c :: s) = Vaflxa.constFrom n (c :: got) (p + 1, s) := by
  rw [Vaflxa.constFrom]
  dsimp only
  split
  · rename_i heq
    cases heq
  · rename_i heq
    injection heq with z _
    exact absurd z h
  · rename_i heq
    injection heq with z1 z2
    subst z1
    subst z2
    rw [if_pos hb]
theorem cf_bad (n : Nat) (got : List UInt8) {bs : List UInt8} {p : Nat} (h : inR 32 126 bs[p]? = false) : Vaflxa.constFrom (n + 1) got (p, bs.drop p) = .error ⟨1, p⟩ := by
  cases e : bs[p]? with
  | none => rw [drop_none e]; rfl
  | some c =>
    rw [e, byte_in] at h
    have h34 : c ≠ 34 := fun z => by rw [z] at h; exact absurd h (by decide)
    rw [drop_some e, Vaflxa.constFrom]
    dsimp only
    split
    · rename_i heq
      cases heq
    · rename_i heq
      injection heq with z _
      exact absurd z h34
    · rename_i heq
      injection heq with z1 z2
      subst z1
      rw [if_neg (by rw [h]; exact Bool.false_ne_true)]
      rfl
theorem const34_is {bs : List UInt8} {p : Nat} (h : bs[p]? = some 34) : const34 (p, bs.drop p) = match Vaflxa.constFrom ((bs.drop p).length + 1) [] (p + 1, bs.drop (p + 1)) with
    | .error e => .error e
    | .ok (t, b) => if t.isEmpty || decide (12 < t.length) then .error ⟨2, p⟩ else .ok (.const t, b) := by
  unfold const34
  rw [drop_some h]
  rfl
theorem const34_no {bs : List UInt8} {p : Nat} (h : bs[p]? ≠ some 34) : const34 (p, bs.drop p) = .error ⟨1, p⟩ := by
  cases e : bs[p]? with
  | none => rw [drop_none e]; rfl
  | some c =>
    rw [drop_some e]
    unfold const34
    dsimp only
    rw [if_neg (fun z => h (by rw [e, z]))]
    rfl
structure ConW (K : PySem.W.Frag) (A : Ads) (S H : Hp) (r dx t : Addr) (bs : List UInt8) (p : Nat) (l : Addr) (ts : List UInt8) (p' n : Nat) (S' H' : Hp) : Prop where
  R : RdAt A S' H' r dx t bs p'
  G : Grow (fun b => b = r) S H S' H'
  lst : H' l = some (.lst (vBs ts))
  sl : S' l = none
  nl : H l = none
  lt : p < p'
  sz : ts.length ≤ p'
  fu : (bs.drop p').length < n
  eq : Vaflxa.constFrom ((bs.drop p).length + 1) [] (p + 1, bs.drop (p + 1)) = Vaflxa.constFrom n ts.reverse (p', bs.drop p')
theorem vBs_snoc (ts : List UInt8) (c : UInt8) : vBs (ts ++ [c]) = vBs ts ++ [.int (c.toNat : Int)] := by
  unfold vBs
  rw [List.map_append]
  rfl
theorem pure_read_constant (T : Fx K mg A) (vs : List V) (H : Hp) (Q : VK) (E : XK) (h : sp_read_constant K A vs H Q E) : t_read_constant K A E { nx := fun _ H' => Q .non H', rt := Q } (start ["reader", "start", "text", "byte"] vs) H := by
  obtain ⟨_, r, dx, t, bs, p, S, rfl, R, q1, q2⟩ := h
  have hr := R.hr
  unfold t_read_constant
  walk_at "lits"
  walk_at "go"
  refine ⟨rfl, _, r, dx, t, bs, p, S, rfl, R, fun _ p1 v S1 H1 e1 le1 R1 G1 z1 => ?_, fun e p1 d S1 H1 z R1 G1 hd => ?_⟩
  · obtain ⟨h34, rfl⟩ := expect_ok (need_ok e1)
    have key := const34_is h34
    have hr1 := R1.hr
    walk_at "go"
    refine w_obj (show 0 ≤ 1000000 by decide) (fun l hl => ?_)
    walk_at "go"
    obtain ⟨R2, G2⟩ := R1.made (o := .lst []) hl
    have hlen : (bs.drop p).length = bs.length - p := List.length_drop ..
    have W0 : ConW K A S H r dx t bs p l [] (p + 1) ((bs.drop p).length + 1) S1 (upd H1 l (.lst [])) :=
      ⟨R2, G1.trans G2, upd_same, R1.hS.free hl, G1.stay l hl, Nat.lt_succ_self p, Nat.zero_le _, by rw [hlen, List.length_drop]; omega, rfl⟩
    refine w_while (fun m σ H' => ∃ ts p' n S' v, σ = [some (.ref r), some (.int (p : Nat)), some (.ref l), v] ∧ m = bs.length - p' ∧ ConW K A S H r dx t bs p l ts p' n S' H') _ ⟨[], p + 1, _, S1, none, rfl, rfl, W0⟩ ?_
    rintro m σ H' ⟨ts, p', n, S', v3, rfl, rfl, W⟩
    have nrl : r ≠ l := ne_of_none R.hr W.nl
    have hr' := W.R.hr
    walk_at "go"
    refine w_turn ?_
    walk_at "go"
    obtain ⟨n, rfl⟩ : ∃ n', n = n' + 1 := ⟨n - 1, by have := W.fu; omega⟩
    have hdl : (bs.drop p').length = bs.length - p' := List.length_drop ..
    have hfu := W.fu
    have hltp := W.lt
    have hz := W.R.hl
    have hsz := W.sz
    have hpb := W.R.hp
    have fault : ∀ {k pl : Nat} {S2 H2 : Hp} {p2 : Nat}, Vaflxa.constFrom (n + 1) ts.reverse (p', bs.drop p') = .error ⟨k, pl⟩ → const34 (p, bs.drop p) = .error ⟨k, pl⟩ := by
      intro k pl S2 H2 p2 z
      rw [key, W.eq, z]
    -- a byte is put behind
    have put : ∀ (c : UInt8) (v : Option V) (p2 : Nat) (S2 H2 : Hp), RdAt A S2 H2 r dx t bs p2 → Grow (fun b => b = r) S' H' S2 H2 → p' < p2 → Vaflxa.constFrom (n + 1) ts.reverse (p', bs.drop p') = Vaflxa.constFrom n (c :: ts.reverse) (p2, bs.drop p2) →
        (tDrop (tBM K "list" rAppend (tVar 2) (tCons (tVar 3) tNil))) { nx := fun σ' H'_1 => ∃ m', m' < bs.length - p' ∧ ∃ ts p' n S' v, σ' = [some (.ref r), some (.int (p : Nat)), some (.ref l), v] ∧ m' = bs.length - p' ∧ ConW K A S H r dx t bs p l ts p' n S' H'_1, rt := Q }
          [some (.ref r), some (.int (p : Nat)), some (.ref l), some (.int (c.toNat : Int))] H2 := by
      intro c v p2 S2 H2 R2 G2 hp2 e
      have h2 : H2 l = some (.lst (vBs ts)) := G2.same l _ W.lst (Ne.symm nrl)
      have s2 : S2 l = none := G2.out (by rw [W.lst]; exact fun z => nomatch z) W.sl
      have hp2b := R2.hp
      walk_at "go"
      refine w_app h2 (by rw [vBs_length]; exact Nat.lt_of_lt_of_le (show ts.length < 2000 by omega) (by decide)) ?_
      refine ⟨_, ?_, ts ++ [c], p2, n, S2, _, rfl, rfl, ⟨R2.other (Ne.symm nrl) s2, (W.G.trans G2).put_new W.nl (by rw [h2]; exact fun z => nomatch z) s2, ?_, s2, W.nl, by omega, ?_, ?_, ?_⟩⟩
      · omega
      · rw [upd_same, vBs_snoc]
      · rw [List.length_append, List.length_singleton]
        omega
      · rw [List.length_drop]
        omega
      · rw [W.eq, e, List.reverse_append]
        rfl
    refine ⟨rfl, _, _, r, dx, t, bs, p', S', rfl, W.R, fun c p2 v S2 H2 e2 le2 R2 G2 z2 => ?_, fun e p2 d S2 H2 z R2 G2 hd => ?_⟩
    · obtain ⟨hc, hcr, rfl⟩ := take_ok e2
      rw [byte_in] at hcr
      subst z2
      have hr2 := R2.hr
      unfold vB
      walk_at "go"
      refine w_eq rfl ?_
      walk_at "go"
      refine w_if2 (fun h1 => ?_) (fun h1 => ?_)
      · have h1 : (c.toNat : Int) = (34 : UInt8).toNat := V.int.inj (of_decide_eq_true h1)
        have h1 : c = 34 := UInt8.toNat_inj.mp (by omega)
        subst h1
        walk_at "go"
        refine ⟨rfl, r, dx, t, bs, p' + 1, _, S2, rfl, R2, fun h34 H3 R3 G3 => ?_, fun h34 => ?_⟩
        · walk_at "go"
          rw [Bool.not_true]
          refine w_ifF ?_
          refine w_next ?_
          refine put 34 none (p' + 2) S2 H3 R3 (G2.trans G3) (by omega) ?_
          rw [drop_some hc, drop_some h34]
          rfl
        · walk_at "go"
          rw [Bool.not_false]
          refine w_ifT ?_
          have ef : Vaflxa.constFrom (n + 1) ts.reverse (p', bs.drop p') = .ok (ts, (p' + 1, bs.drop (p' + 1))) := by
            rw [drop_some hc, cf_end _ _ _ (by rw [List.head?_drop]; exact h34), List.reverse_reverse]
          rw [W.eq, ef] at key
          have key : const34 (p, bs.drop p) = if ts.isEmpty || decide (12 < ts.length) then .error ⟨2, p⟩ else .ok (.const ts, (p' + 1, bs.drop (p' + 1))) := key
          have h2 : H2 l = some (.lst (vBs ts)) := G2.same l _ W.lst (Ne.symm nrl)
          have sq2 : SqL K H2 l (vBs ts) := SqL.of h2
          have G02 := W.G.trans G2
          have bad : (ts.isEmpty || decide (12 < ts.length)) = true → IsErr A.c_Fault 2 PySem.OeX.fo_Fault [.int 2, .int (p : Nat)] H2 E := fun hb =>
            RdAt.fault (k := 2) (pl := p) (by rw [key, if_pos hb]) R2 G02 q2
          walk_at "go"
          refine w_eq rfl ?_
          walk_at "go"
          rw [vBs_length]
          refine w_if2 (fun h5 => ?_) (fun h5 => ?_)
          · have h5 : (ts.length : Int) = 0 := V.int.inj (of_decide_eq_true h5)
            walk_at "go"
            refine bad ?_
            cases ts with
            | nil => rfl
            | cons _ _ => rw [List.length_cons] at h5; omega
          · have h5 : ¬ V.int (ts.length : Int) = V.int 0 := of_decide_eq_false h5
            have h5 : ts.length ≠ 0 := fun z => h5 (by rw [z]; rfl)
            walk_at "go"
            rw [vBs_length]
            refine w_if2 (fun h6 => ?_) (fun h6 => ?_)
            · have h6 : (12 : Int) < (ts.length : Int) := of_decide_eq_true h6
              walk_at "go"
              refine bad ?_
              rw [decide_eq_true (by omega), Bool.or_true]
            · have h6 : ¬ (12 : Int) < (ts.length : Int) := of_decide_eq_false h6
              walk_at "go"
              refine w_new rfl (fun x d hx hd hne => ?_)
              have R3 := R2.fix h2 (Ne.symm nrl)
              have G3 := G02.fix W.nl h2
              obtain ⟨R4, G4⟩ := R3.inst (C := A.c_Constant) (fs := fo_Constant [.ref l]) hx hd hne
              refine q1 (.const ts) (p' + 1) _ _ _ ?_ (by omega) R4 (G3.trans G4) ⟨x, rfl, d, l, upd_same, G4.up _ _ upd_same, by omega, by omega⟩
              have hb : (ts.isEmpty || decide (12 < ts.length)) = false := by
                rw [decide_eq_false (by omega), Bool.or_false]
                cases ts with
                | nil => exact absurd rfl h5
                | cons _ _ => rfl
              rw [key, hb]
              rfl
      · have h1 : ¬ V.int (c.toNat : Int) = V.int ((34 : UInt8).toNat : Int) := of_decide_eq_false h1
        have h1 : c ≠ 34 := fun z => h1 (by rw [z])
        refine w_ifF ?_
        refine w_next ?_
        refine put c none (p' + 1) S2 H2 R2 G2 (by omega) ?_
        rw [drop_some hc, cf_byte _ _ _ _ h1 hcr]
    · obtain ⟨rfl, hx⟩ := take_err z
      exact q2 ⟨1, p'⟩ p2 d S2 H2 (fault (S2 := S2) (H2 := H2) (p2 := p2) (cf_bad n _ hx)) R2 (W.G.trans G2) hd
  · obtain ⟨h34, rfl⟩ := expect_err (need_err z)
    exact q2 ⟨1, p⟩ p1 d S1 H1 (const34_no h34) R1 G1 hd
end
section
variable {K : PySem.W.Frag} {mg : Str → Option Value} {A : Ads}
def addFront (xs : Vaflxa.Program) : Res Vaflxa.Program → Res Vaflxa.Program
  | .ok l => .ok (xs ++ l)
  | .error e => .error e
def tailFrom (n k : Nat) (b : At) : Res Vaflxa.Program := match b.2 with
  | [] => .ok []
  | c :: r => if c = 38 then Vaflxa.piecesFrom n k (b.1 + 1, r) else .error ⟨1, b.1⟩
theorem pieces_succ (n k : Nat) (a : At) : Vaflxa.piecesFrom (n + 1) k a = if 6 ≤ k then .error ⟨5, a.1⟩ else match Vaflxa.pieceAt a with
    | .error e => .error e
    | .ok (x, b) => addFront [x] (tailFrom n (k + 1) b) := by
  rw [Vaflxa.piecesFrom]
  show (if 6 ≤ k then Vaflxa.fault 5 a.1 else _) = _
  by_cases h : 6 ≤ k
  · rw [if_pos h, if_pos h]
    rfl
  · rw [if_neg h, if_neg h]
    cases e : Vaflxa.pieceAt a with
    | error z => rfl
    | ok xb =>
      obtain ⟨x, q, l⟩ := xb
      dsimp only
      unfold tailFrom
      cases l with
      | nil => rfl
      | cons c r =>
        dsimp only
        by_cases hc : c = 38
        · subst hc
          rw [if_pos rfl]
          show (match Vaflxa.piecesFrom n (k + 1) (q + 1, r) with
            | Except.error e => Except.error e
            | Except.ok l => Except.ok (x :: l)) = _
          cases Vaflxa.piecesFrom n (k + 1) (q + 1, r) <;> rfl
        · rw [if_neg hc]
          split
          · rename_i heq
            cases heq
          · rename_i heq
            injection heq with z _
            exact absurd z hc
          · rfl
def endMap (xs : Vaflxa.Program) : Res (Unit × At) → Res Vaflxa.Program
  | .ok _ => .ok xs
  | .error e => .error e
theorem addFront_add (xs ys : Vaflxa.Program) (r : Res Vaflxa.Program) : addFront xs (addFront ys r) = addFront (xs ++ ys) r := by
  cases r with
  | error e => rfl
  | ok l =>
    show Except.ok (xs ++ (ys ++ l)) = Except.ok ((xs ++ ys) ++ l)
    rw [List.append_assoc]
theorem read_48 (r : List UInt8) : Vaflxa.read (48 :: r) = if r.isEmpty then .ok [] else .error ⟨1, 1⟩ := rfl
theorem read_no {bs : List UInt8} (h : bs[0]? ≠ some 48) : Vaflxa.read bs = Vaflxa.piecesFrom (bs.length + 1) 0 (0, bs) := by
  unfold Vaflxa.read
  split
  · rename_i r
    exact absurd rfl h
  · rfl
theorem Grow.forget {S H S' H' : Hp} {r : Addr} (G : Grow (fun b => b = r) S H S' H') (h : H r = none) : Grow (fun _ => False) S H S' H' :=
  ⟨fun q u e _ => G.same q u e (fun z => by rw [z, h] at e; cases e), G.stay, G.up, G.sub, G.fresh⟩
structure PrgW (K : PySem.W.Frag) (A : Ads) (S H : Hp) (r dx t : Addr) (bs : List UInt8) (l : Addr) (xs : Vaflxa.Program) (vs : List V) (p : Nat) (S' H' : Hp) : Prop where
  R : RdAt A S' H' r dx t bs p
  G : Grow (fun b => b = r) S H S' H'
  lst : H' l = some (.lst vs)
  sl : S' l = none
  nl : H l = none
  ps : Paired (IsPiece K A S') vs xs
  six : xs.length ≤ 6
theorem pure_read_program (T : Fx K mg A) (vs : List V) (H : Hp) (Q : VK) (E : XK) (h : sp_read_program K A vs H Q E) : t_read_program K A E { nx := fun _ H' => Q .non H', rt := Q } (start ["text", "reader", "pieces"] vs) H := by
  obtain ⟨_, t, bs, S, rfl, hS, ht, hl, q1, q2⟩ := h
  unfold t_read_program
  walk_at "lits"
  walk_at "go"
  refine w_new rfl (fun r dx hr hd hne => ?_)
  have G0 : Grow (fun b => b = r) S H S (upd (upd H dx (.own r)) r (.ins A.c_Reader dx (fo_Reader [.ref t]))) :=
    (Grow.made hS hd).trans (Grow.made (Grow.made (r := fun b => b = r) hS hd).sub (by rw [upd_ne (Ne.symm hne)]; exact hr))
  have R0 : RdAt A S (upd (upd H dx (.own r)) r (.ins A.c_Reader dx (fo_Reader [.ref t]))) r dx t bs 0 := ⟨upd_same, G0.sub, hS.free hr, ht, Nat.zero_le _, hl⟩
  generalize (upd (upd H dx (.own r)) r (.ins A.c_Reader dx (fo_Reader [.ref t]))) = H0 at G0 R0 ⊢
  walk_at "go"
  refine w_obj (show 0 ≤ 1000000 by decide) (fun l hl0 => ?_)
  obtain ⟨R1, G1⟩ := R0.made (o := .lst []) hl0
  have W0 : PrgW K A S H r dx t bs l [] [] 0 S (upd H0 l (.lst [])) := ⟨R1, G0.trans G1, upd_same, R0.hS.free hl0, G0.stay l hl0, .nil, Nat.zero_le _⟩
  generalize upd H0 l (.lst []) = H1 at W0 ⊢
  clear R0 R1 G0 G1 hl0
  have fault : ∀ {k pl p' : Nat} {S' H' : Hp} {xs : Vaflxa.Program} {vs : List V}, PrgW K A S H r dx t bs l xs vs p' S' H' → Vaflxa.read bs = .error ⟨k, pl⟩ → IsErr A.c_Fault 2 PySem.OeX.fo_Fault [.int (k : Nat), .int (pl : Nat)] H' E := by
    intro k pl p' S' H' xs vs W e
    refine ⟨rfl, fun d hd => ?_⟩
    obtain ⟨R4, G4⟩ := W.R.made (o := .xd (PySem.OeX.fo_Fault [.int (k : Nat), .int (pl : Nat)])) hd
    exact q2 ⟨k, pl⟩ d S' _ e ((W.G.trans G4).forget hr) upd_same
  have rest : ∀ (xs : Vaflxa.Program) (vs : List V) (p : Nat) (S' H' : Hp), PrgW K A S H r dx t bs l xs vs p S' H' → Vaflxa.read bs = endMap xs (endAt (p, bs.drop p)) →
      (tSeq (tDrop (tMet A.c_Reader "need_end" (sp_Reader_need_end K A) E (tVar 1) tNil)) (tRet (tVar 2))) { nx := fun _ H' => Q .non H', rt := Q } [some (.ref t), some (.ref r), some (.ref l)] H' := by
    intro xs vs p S' H' W e
    have hr' := W.R.hr
    have nrl : r ≠ l := by
      intro z
      have := W.R.hr
      rw [z, W.lst] at this
      cases this
    walk_at "go"
    refine ⟨rfl, r, dx, t, bs, p, S', rfl, W.R, fun _ p2 v S2 H2 e2 le2 R2 G2 z2 => ?_, fun e1 p2 d S2 H2 z R2 G2 hd => ?_⟩
    · rw [e2] at e
      walk_at "go"
      have h2 : H2 l = some (.lst vs) := G2.same l _ W.lst (Ne.symm nrl)
      have s2 : S2 l = none := G2.out (by rw [W.lst]; exact fun z => nomatch z) W.sl
      refine q1 xs l _ H2 e (((W.G.trans G2).fix W.nl h2).forget hr) ⟨vs, upd_same, ?_, W.six⟩
      exact Paired.mapP W.ps fun _ _ z => (z.mono G2.up).mono (same_upd s2)
    · rw [z] at e
      exact q2 e1 d S2 H2 e ((W.G.trans G2).forget hr) hd
  have hr1 := W0.R.hr
  walk_at "go"
  refine ⟨rfl, r, dx, t, bs, 0, _, S, rfl, W0.R, fun h48 H2 R2 G2 => ?_, fun h48 => ?_⟩
  · walk_at "go1"
    rw [Bool.not_true]
    refine w_ifF ?_
    refine w_next ?_
    have nrl : r ≠ l := by
      intro z
      have := W0.R.hr
      rw [z, W0.lst] at this
      cases this
    refine rest [] [] 1 S H2 ⟨R2, W0.G.trans G2, G2.same l _ W0.lst (Ne.symm nrl), W0.sl, W0.nl, .nil, Nat.zero_le _⟩ ?_
    have e0 := drop_some h48
    rw [List.drop_zero] at e0
    rw [e0, read_48]
    unfold endAt
    cases bs.drop 1 <;> rfl
  · have key := read_no h48
    rw [pieces_succ, if_neg (by decide)] at key
    have ed : (0, bs) = ((0 : Nat), bs.drop 0) := by rw [List.drop_zero]
    rw [ed] at key
    walk_at "go1"
    rw [Bool.not_false]
    refine w_ifT ?_
    have hlst := W0.lst
    walk_at "go"
    have nrl : r ≠ l := by
      intro z
      have := W0.R.hr
      rw [z, W0.lst] at this
      cases this
    refine ⟨rfl, r, dx, t, bs, 0, S, rfl, W0.R, fun x p2 v S2 H2 e2 le2 R2 G2 z2 => ?_, fun e p2 d S2 H2 z R2 G2 hd => ?_⟩
    · obtain ⟨ax, rfl, hx⟩ := z2
      rw [e2] at key
      have h2 : H2 l = some (.lst []) := G2.same l _ W0.lst (Ne.symm nrl)
      have s2 : S2 l = none := G2.out (by rw [W0.lst]; exact fun z => nomatch z) W0.sl
      walk_at "go"
      refine w_app h2 (by decide) ?_
      have W1 : PrgW K A S H r dx t bs l [x] [.ref ax] p2 S2 (upd H2 l (.lst ([] ++ [.ref ax]))) :=
        ⟨R2.other (Ne.symm nrl) s2, (W0.G.trans G2).put_new W0.nl (by rw [h2]; exact fun z => nomatch z) s2, upd_same, s2, W0.nl, .cons ⟨ax, rfl, hx⟩ .nil, (by show 1 ≤ 6; decide)⟩
      have hl1 : (bs.drop p2).length ≤ bs.length := by
        rw [List.length_drop]
        omega
      refine w_while (fun m σ H' => ∃ xs vs p S' n, σ = [some (.ref t), some (.ref r), some (.ref l)] ∧ m = bs.length - p ∧ PrgW K A S H r dx t bs l xs vs p S' H' ∧ (bs.drop p).length ≤ n ∧ Vaflxa.read bs = addFront xs (tailFrom n xs.length (p, bs.drop p))) _
        ⟨[x], _, p2, S2, bs.length, rfl, rfl, W1, hl1, key⟩ ?_
      rintro m σ H' ⟨xs, vs, p, S', n, rfl, rfl, W, hn, hk⟩
      have hr' := W.R.hr
      have hlst' := W.lst
      have hdl : (bs.drop p).length = bs.length - p := List.length_drop ..
      walk_at "go"
      refine ⟨rfl, r, dx, t, bs, p, _, S', rfl, W.R, fun h38 H3 R3 G3 => ?_, fun h38 => ?_⟩
      · have hp := lt_get h38
        walk_at "go"
        refine w_turn ?_
        have h3 : H3 l = some (.lst vs) := G3.same l _ W.lst (Ne.symm nrl)
        have W3 : PrgW K A S H r dx t bs l xs vs (p + 1) S' H3 := ⟨R3, W.G.trans G3, h3, W.sl, W.nl, W.ps, W.six⟩
        have hr3 := R3.hr
        have sq3 : SqL K H3 l vs := SqL.of h3
        have hlen : vs.length = xs.length := Paired.len W.ps
        have six := W.six
        obtain ⟨k6, rfl⟩ : ∃ m, n = m + 1 := ⟨n - 1, by omega⟩
        rw [drop_some h38] at hk
        unfold tailFrom at hk
        dsimp only at hk
        rw [if_pos rfl, pieces_succ] at hk
        walk_at "go"
        refine w_eq rfl ?_
        walk_at "go"
        rw [hlen]
        refine w_if2 (fun h6 => ?_) (fun h6 => ?_)
        · have h6 : (xs.length : Int) = 6 := V.int.inj (of_decide_eq_true h6)
          walk_at "go"
          rw [if_pos (by omega)] at hk
          exact fault (k := 5) (pl := p + 1) W3 hk
        · have h6 : ¬ V.int (xs.length : Int) = V.int 6 := of_decide_eq_false h6
          have h6 : ¬ 6 ≤ xs.length := fun z => h6 (by rw [show (xs.length : Int) = 6 by omega])
          rw [if_neg h6] at hk
          walk_at "go"
          refine ⟨rfl, r, dx, t, bs, p + 1, S', rfl, R3, fun y p4 v S4 H4 e4 le4 R4 G4 z4 => ?_, fun e p4 d S4 H4 z R4 G4 hd => ?_⟩
          · obtain ⟨ay, rfl, hy⟩ := z4
            rw [e4] at hk
            have h4 : H4 l = some (.lst vs) := G4.same l _ h3 (Ne.symm nrl)
            have s4 : S4 l = none := G4.out (by rw [h3]; exact fun z => nomatch z) W.sl
            walk_at "go"
            refine w_app h4 (by rw [hlen]; exact Nat.lt_of_lt_of_le (show xs.length < 100 by omega) (by decide)) ?_
            refine ⟨_, ?_, xs ++ [y], vs ++ [.ref ay], p4, S4, k6, rfl, rfl, ⟨R4.other (Ne.symm nrl) s4, ((W.G.trans G3).trans G4).put_new W.nl (by rw [h4]; exact fun z => nomatch z) s4, upd_same, s4, W.nl, ?_, ?_⟩, ?_, ?_⟩
            · have := R4.hp
              omega
            · exact Paired.snoc (Paired.mapP W.ps fun _ _ z => z.mono (G3.trans G4).up) ⟨ay, rfl, hy⟩
            · rw [List.length_append, List.length_singleton]
              omega
            · rw [List.length_drop]
              omega
            · rw [hk, List.length_append, List.length_singleton]
              exact addFront_add xs [y] _
          · rw [z] at hk
            exact q2 e d S4 H4 hk (((W.G.trans G3).trans G4).forget hr) hd
      · walk_at "go1"
        refine w_ifF ?_
        refine rest xs vs p S' H' W ?_
        rw [hk]
        unfold tailFrom endAt
        cases e3 : bs[p]? with
        | none =>
          rw [drop_none e3]
          show Except.ok (xs ++ []) = Except.ok xs
          rw [List.append_nil]
        | some c =>
          rw [drop_some e3]
          dsimp only
          rw [if_neg (fun z => h38 (by rw [e3, z]))]
          rfl
    · rw [z] at key
      exact q2 e d S2 H2 key ((W0.G.trans G2).forget hr) hd
end
section
variable {K : PySem.W.Frag} {mg : Str → Option Value} {A : Ads}
theorem Grow.Same {S H S' H' : Hp} (G : Grow nobody S H S' H') : L2.Same H H' := fun b o e => G.same b o e fun z => z.elim
theorem small_in (c : UInt8) : (decide ((97 : Int) ≤ (c.toNat : Int)) && decide ((c.toNat : Int) ≤ 122)) = Vaflxa.isSmall c := btw 97 122 c
theorem cap_in (c : UInt8) : (decide ((65 : Int) ≤ (c.toNat : Int)) && decide ((c.toNat : Int) ≤ 90)) = Vaflxa.isCapital c := btw 65 90 c
theorem toCap_nat (c : UInt8) : ((Vaflxa.toCapital c).toNat : Int) = if Vaflxa.isSmall c = true then (c.toNat : Int) - 32 else (c.toNat : Int) := by
  unfold Vaflxa.toCapital
  by_cases h : Vaflxa.isSmall c = true
  · rw [if_pos h, if_pos h]
    unfold Vaflxa.isSmall at h
    rw [Bool.and_eq_true, decide_eq_true_eq, decide_eq_true_eq, UInt8.le_iff_toNat_le, UInt8.le_iff_toNat_le] at h
    have h1 : 97 ≤ c.toNat := h.1
    have h2 : c.toNat ≤ 122 := h.2
    rw [UInt8.toNat_sub_of_le]
    · show ((c.toNat - 32 : Nat) : Int) = _
      omega
    · rw [UInt8.le_iff_toNat_le]
      show 32 ≤ c.toNat
      omega
  · rw [if_neg h, if_neg h]
theorem toSmall_nat (c : UInt8) : ((Vaflxa.toSmall c).toNat : Int) = if Vaflxa.isCapital c = true then (c.toNat : Int) + 32 else (c.toNat : Int) := by
  unfold Vaflxa.toSmall
  by_cases h : Vaflxa.isCapital c = true
  · rw [if_pos h, if_pos h]
    unfold Vaflxa.isCapital at h
    rw [Bool.and_eq_true, decide_eq_true_eq, decide_eq_true_eq, UInt8.le_iff_toNat_le, UInt8.le_iff_toNat_le] at h
    have h1 : 65 ≤ c.toNat := h.1
    have h2 : c.toNat ≤ 90 := h.2
    rw [UInt8.toNat_add]
    show (((c.toNat + 32) % 256 : Nat) : Int) = _
    omega
  · rw [if_neg h, if_neg h]
theorem pure_capital (T : Fx K mg A) (vs : List V) (H : Hp) (Q : VK) (E : XK) (h : sp_capital K A vs H Q E) : t_capital K A E { nx := fun _ H' => Q .non H', rt := Q } (start ["byte"] vs) H := by
  obtain ⟨_, c, rfl, q⟩ := h
  rw [toCap_nat, ← small_in] at q
  unfold t_capital
  walk_at "go"
  refine w_if2 (fun h1 => ?_) (fun h1 => ?_)
  · walk_at "go"
    rw [h1, Bool.true_and] at q
    refine w_if2 (fun h2 => ?_) (fun h2 => ?_)
    · walk_at "go"
      rw [h2, if_pos rfl] at q
      exact q
    · walk_at "go"
      rw [h2, if_neg Bool.false_ne_true] at q
      exact q
  · walk_at "go"
    rw [h1, Bool.false_and, if_neg Bool.false_ne_true] at q
    exact q
theorem pure_small (T : Fx K mg A) (vs : List V) (H : Hp) (Q : VK) (E : XK) (h : sp_small K A vs H Q E) : t_small K A E { nx := fun _ H' => Q .non H', rt := Q } (start ["byte"] vs) H := by
  obtain ⟨_, c, rfl, q⟩ := h
  rw [toSmall_nat, ← cap_in] at q
  unfold t_small
  walk_at "go"
  refine w_if2 (fun h1 => ?_) (fun h1 => ?_)
  · walk_at "go"
    rw [h1, Bool.true_and] at q
    refine w_if2 (fun h2 => ?_) (fun h2 => ?_)
    · walk_at "go"
      rw [h2, if_pos rfl] at q
      exact q
    · walk_at "go"
      rw [h2, if_neg Bool.false_ne_true] at q
      exact q
  · walk_at "go"
    rw [h1, Bool.false_and, if_neg Bool.false_ne_true] at q
    exact q
def isUp : Case → Bool
  | .up => true
  | _ => false
def isLow : Case → Bool
  | .low => true
  | _ => false
def isFirst : Case → Bool
  | .first => true
  | _ => false
theorem up_is (k : Case) : decide (V.str (caseStr k) = V.str (sg 94)) = isUp k := by cases k <;> decide +kernel
theorem low_is (k : Case) : decide (V.str (caseStr k) = V.str (sg 95)) = isLow k := by cases k <;> decide +kernel
theorem first_is (k : Case) : decide (V.str (caseStr k) = V.str (sg 126)) = isFirst k := by cases k <;> decide +kernel
/-- the letters of a list turned one by one -/
theorem lc_turn {f : UInt8 → UInt8} {σ : L2.St} {H : Hp} {Q : VK} {a : Addr} {bs : List UInt8} {te : TE} {j : Nat} (h : SqL K H a (vBs bs)) (hz : bs.length ≤ 1000)
    (he : ∀ (H' : Hp) (c : UInt8) (Q : VK), Q (.int ((f c).toNat : Int)) H' → te ((σ.set j none).set j (some (.int (c.toNat : Int)))) H' Q) (q : ∀ D, H D = none → Q (.ref D) (upd H D (.lst (vBs (bs.map f))))) : IsLcL K (gName j) tYes te [j] σ (.ref a) H Q := by
  refine w_lcmap (ys := vBs (bs.map f)) h (by rw [vBs_length]; omega) (by rw [vBs_length, vBs_length, List.length_map]) ?_ q
  intro D i x y hD hx hy Q' q'
  obtain ⟨c, hc, rfl⟩ := map_get hx
  obtain ⟨d, hd, rfl⟩ := map_get hy
  rw [List.getElem?_map, hc] at hd
  obtain rfl := Option.some.inj hd
  exact he _ c Q' q'
theorem pure_turned (T : Fx K mg A) (vs : List V) (H : Hp) (Q : VK) (E : XK) (h : sp_turned K A vs H Q E) : t_turned K A E { nx := fun _ H' => Q .non H', rt := Q } (start ["text", "turn", "byte"] vs) H := by
  obtain ⟨_, S, t, bs, k, rfl, hS, ht, hz, q⟩ := h
  have sq : SqL K H t (vBs bs) := SqL.of (hS _ _ ht)
  unfold t_turned
  walk_at "lits"
  walk_at "go"
  refine w_eq rfl ?_
  walk_at "go"
  rw [up_is]
  refine w_if2 (fun h1 => ?_) (fun h1 => ?_)
  · have hk : k = .up := by cases k <;> first | rfl | exact absurd h1 (by decide)
    subst hk
    walk_at "go"
    refine lc_turn (f := Vaflxa.toCapital) sq hz (fun H' c Q' q' => ?_) (fun D hD => q _ D _ (Grow.laid hS hD) upd_same)
    walk_at "go"
    exact ⟨rfl, c, rfl, q'⟩
  walk_at "go"
  refine w_eq rfl ?_
  walk_at "go"
  rw [low_is]
  refine w_if2 (fun h2 => ?_) (fun h2 => ?_)
  · have hk : k = .low := by cases k <;> first | rfl | exact absurd h2 (by decide)
    subst hk
    walk_at "go"
    refine lc_turn (f := Vaflxa.toSmall) sq hz (fun H' c Q' q' => ?_) (fun D hD => q _ D _ (Grow.laid hS hD) upd_same)
    walk_at "go"
    exact ⟨rfl, c, rfl, q'⟩
  walk_at "go"
  refine w_eq rfl ?_
  walk_at "go"
  rw [first_is]
  refine w_if2 (fun h3 => ?_) (fun h3 => ?_)
  · have hk : k = .first := by cases k <;> first | rfl | exact absurd h3 (by decide)
    subst hk
    walk_at "go"
    refine w_cut sq (fun p1 hp1 => ?_)
    have c1 : cutV (vBs bs) none (some 1) = vBs (bs.take 1) := by
      unfold cutV
      have e1 : HT.sIx (vBs bs).length (vBs bs).length (some 1) = min 1 bs.length := by
        rw [vBs_length]
        exact HT.sIx_nat bs.length bs.length 1
      rw [e1]
      show ((vBs bs).drop 0).take (min 1 bs.length - 0) = _
      unfold vBs
      rw [List.drop_zero, List.map_take, Nat.sub_zero]
      cases bs with
      | nil => rfl
      | cons c r => rw [List.length_cons, Nat.min_eq_left (by omega)]
    rw [c1]
    refine lc_turn (f := Vaflxa.toCapital) (SqL.of upd_same) (by rw [List.length_take]; omega) (fun H' c Q' q' => ?_) (fun D1 hD1 => ?_)
    · walk_at "go"
      exact ⟨rfl, c, rfl, q'⟩
    have sq1 : SqL K (upd (upd H p1 (.lst (vBs (bs.take 1)))) D1 (.lst (vBs ((bs.take 1).map Vaflxa.toCapital)))) t (vBs bs) := SqL.upd (SqL.upd sq hp1) hD1
    walk_at "go"
    refine w_cut sq1 (fun p2 hp2 => ?_)
    have c2 : cutV (vBs bs) (some 1) none = vBs (bs.drop 1) := by
      unfold cutV
      have e1 : HT.sIx (vBs bs).length 0 (some 1) = min 1 bs.length := by
        rw [vBs_length]
        exact HT.sIx_nat bs.length 0 1
      rw [e1, HT.sIx_none, vBs_length]
      unfold vBs
      rw [List.map_drop]
      cases bs with
      | nil => rfl
      | cons c r =>
        rw [List.length_cons, Nat.min_eq_left (by omega), List.take_of_length_le (by rw [List.length_drop, List.length_map, List.length_cons]; omega)]
    rw [c2]
    refine lc_turn (f := Vaflxa.toSmall) (SqL.of upd_same) (by rw [List.length_drop]; omega) (fun H' c Q' q' => ?_) (fun D2 hD2 => ?_)
    · walk_at "go"
      exact ⟨rfl, c, rfl, q'⟩
    have G1 : Grow nobody S H S _ := Grow.made (o := .lst (vBs (bs.take 1))) hS hp1
    have G2 := G1.trans (Grow.made (o := .lst (vBs ((bs.take 1).map Vaflxa.toCapital))) G1.sub hD1)
    have G3 := G2.trans (Grow.made (o := .lst (vBs (bs.drop 1))) G2.sub hp2)
    have G4 := G3.trans (Grow.made (o := .lst (vBs ((bs.drop 1).map Vaflxa.toSmall))) G3.sub hD2)
    refine w_cat (xs := vBs ((bs.take 1).map Vaflxa.toCapital)) ?_ upd_same ?_ (fun D3 hD3 => ?_)
    · exact same_upd hD2 _ _ (same_upd hp2 _ _ upd_same)
    · rw [vBs_length, vBs_length, List.length_map, List.length_map, List.length_take, List.length_drop]
      omega
    · refine q _ D3 _ (G4.trans (Grow.laid (o := .lst (vBs ((bs.take 1).map Vaflxa.toCapital) ++ vBs ((bs.drop 1).map Vaflxa.toSmall))) G4.sub hD3)) ?_
      rw [upd_same]
      congr 2
      unfold vBs Vaflxa.cased
      cases bs with
      | nil => rfl
      | cons c r => rfl
  walk_at "go"
  have hk : k = .same := by cases k <;> first | rfl | exact absurd h1 (by decide) | exact absurd h2 (by decide) | exact absurd h3 (by decide)
  subst hk
  exact q S t H (Grow.refl hS) ht
theorem pure_Given_source (T : Fx K mg A) (vs : List V) (H : Hp) (Q : VK) (E : XK) (h : sp_Given_source K A vs H Q E) : t_Given_source K A E { nx := fun _ H' => Q .non H', rt := Q } (start ["self", "k"] vs) H := by
  obtain ⟨_, a, g, k, rfl, ⟨dx, at_, ho, ht⟩, q⟩ := h
  unfold t_Given_source
  walk_at "go"
  refine w_eq rfl ?_
  walk_at "go"
  refine w_if2 (fun h1 => ?_) (fun h1 => ?_)
  · have h1 : (g.2.1 : Int) = 0 := V.int.inj (of_decide_eq_true h1)
    walk_at "go"
    refine w_obj (show 2 ≤ 1000000 by decide) (fun p hp => ?_)
    have q := q p hp
    rw [if_pos (by omega)] at q
    exact q
  · have h1 : ¬ V.int (g.2.1 : Int) = V.int 0 := of_decide_eq_false h1
    walk_at "go"
    refine w_obj (show 2 ≤ 1000000 by decide) (fun p hp => ?_)
    have q := q p hp
    rw [if_neg (fun z => h1 (by rw [z]; rfl))] at q
    exact q
theorem pure_Constant_given_on (T : Fx K mg A) (vs : List V) (H : Hp) (Q : VK) (E : XK) (h : sp_Constant_given_on K A vs H Q E) : t_Constant_given_on K A E { nx := fun _ H' => Q .non H', rt := Q } (start ["self", "record"] vs) H := by
  obtain ⟨_, a, x, rc, r, S, rfl, hk, hS, hx, hr, hz, hl, q1, q2⟩ := h
  cases x with
  | sub f p q k => exact hk.elim
  | const t =>
    obtain ⟨dx, at_, ho, ht, _⟩ := hx
    have ho := hS _ _ ho
    have sq : SqL K H at_ (vBs t) := SqL.of (hS _ _ ht)
    unfold t_Constant_given_on
    walk_at "go"
    refine w_list (Or.inl sq) (fun l hl => ?_)
    walk_at "go"
    refine w_new rfl (fun p d hp hd hne => ?_)
    have G1 : Grow nobody S H _ _ := Grow.laid (o := .lst (vBs t)) hS hl
    have G2 := G1.trans (Grow.laid (o := .own p) G1.sub hd)
    have G3 := G2.trans (Grow.laid (o := .ins A.c_Given d (fo_Given [.ref l, .int 0, .int 0])) (p := p) G2.sub (by rw [upd_ne (Ne.symm hne)]; exact hp))
    refine q2 t rfl _ p _ G3 ⟨d, l, upd_same, ?_⟩
    have e1 : l ≠ d := fun z => by rw [← z, upd_same] at hd; cases hd
    have e2 : l ≠ p := fun z => by rw [← z, upd_same] at hp; cases hp
    rw [upd_ne e2, upd_ne e1, upd_same]
theorem pos_own {H : Hp} {a : Addr} {x : Vaflxa.Pos} {N : Sp → Prop} (h : PosAt K A H a x) (q : ∀ sp : Sp, (∀ (t : Addr) (bs : List UInt8) (Q : VK) (E : XK), SqL K H t (vBs bs) → bs.length ≤ 1000 → (∀ H', L2.Same H H' → Q (vPlace (Vaflxa.placeOf x bs)) H') → sp [.ref a, .ref t] H Q E) → N sp) :
    IsOwnD (tb_Pos K A) "place_in" (.ref a) H N := by
  cases x with
  | start k =>
    obtain ⟨dx, ho, hk⟩ := h
    exact w_ownD ho nm_FromStart_place_in (Or.inl ⟨rfl, rfl⟩) (q _ fun t bs Q E h1 h2 h3 => ⟨rfl, a, .start k, t, bs, rfl, ⟨trivial, dx, ho, hk⟩, h1, h2, h3⟩)
  | finish k =>
    obtain ⟨dx, ho, hk⟩ := h
    exact w_ownD ho nm_FromEnd_place_in (Or.inr (Or.inl ⟨rfl, rfl⟩)) (q _ fun t bs Q E h1 h2 h3 => ⟨rfl, a, .finish k, t, bs, rfl, ⟨trivial, dx, ho, hk⟩, h1, h2, h3⟩)
  | left l r c =>
    obtain ⟨dx, al, ar, ho, hk⟩ := h
    exact w_ownD ho nm_Border_place_in (Or.inr (Or.inr ⟨rfl, rfl⟩)) (q _ fun t bs Q E h1 h2 h3 => ⟨rfl, a, .left l r c, t, bs, rfl, ⟨trivial, dx, al, ar, ho, hk⟩, h1, h2, h3⟩)
  | right l r c =>
    obtain ⟨dx, al, ar, ho, hk⟩ := h
    exact w_ownD ho nm_Border_place_in (Or.inr (Or.inr ⟨rfl, rfl⟩)) (q _ fun t bs Q E h1 h2 h3 => ⟨rfl, a, .right l r c, t, bs, rfl, ⟨trivial, dx, al, ar, ho, hk⟩, h1, h2, h3⟩)
theorem mem_le {α : Type} {l : List α} {i : Nat} {x : α} (h : l[i]? = some x) : x ∈ l := List.mem_of_getElem? h
theorem place_le {x : Vaflxa.Pos} {bs : List UInt8} {n : Nat} (h : Vaflxa.placeOf x bs = some n) : n ≤ bs.length := by
  have hb : ∀ {l r : Cls} {m : Nat}, m ∈ Vaflxa.borders l r bs → m ≤ bs.length := by
    intro l r m hm
    unfold Vaflxa.borders at hm
    have := List.mem_range.mp (List.mem_filter.mp hm).1
    omega
  cases x with
  | start k =>
    unfold Vaflxa.placeOf at h
    dsimp only at h
    split at h
    · cases h; assumption
    · cases h
  | finish k =>
    unfold Vaflxa.placeOf at h
    dsimp only at h
    split at h
    · cases h; omega
    · cases h
  | left l r c =>
    unfold Vaflxa.placeOf at h
    dsimp only at h
    split at h
    · cases h
    · exact hb (List.mem_of_getElem? h)
  | right l r c =>
    unfold Vaflxa.placeOf at h
    dsimp only at h
    split at h
    · cases h
    · exact hb (List.mem_reverse.mp (List.mem_of_getElem? h))
theorem pure_Part_given_on (T : Fx K mg A) (vs : List V) (H : Hp) (Q : VK) (E : XK) (h : sp_Part_given_on K A vs H Q E) : t_Part_given_on K A E { nx := fun _ H' => Q .non H', rt := Q } (start ["self", "record", "text", "start", "end"] vs) H := by
  obtain ⟨_, a, x, rc, r, S, rfl, hk, hS, hx, hr, hz, hl, q1, q2⟩ := h
  cases x with
  | const t => exact hk.elim
  | sub f p q k =>
    obtain ⟨dx, ap, aq, ho, hp, hq, hf1, hf4⟩ := hx
    have ho := hS _ _ ho
    obtain ⟨xs, hrc, hps⟩ := hr
    have sqr : SqL K H rc xs := SqL.of (hS _ _ hrc)
    have hlen : xs.length = r.length := Paired.len hps
    unfold t_Part_given_on
    walk_at "go"
    rw [hlen]
    refine w_if2 (fun h1 => ?_) (fun h1 => ?_)
    · have h1 : (r.length : Int) < (f : Int) := of_decide_eq_true h1
      walk_at "go"
      refine q1 ?_ H (L2.Same.refl H)
      show (Vaflxa.taken r f p q).map _ = none
      unfold Vaflxa.taken
      rw [List.getElem?_eq_none_iff.mpr (show r.length ≤ f - 1 by omega)]
      rfl
    · have h1 : ¬ (r.length : Int) < (f : Int) := of_decide_eq_false h1
      walk_at "go"
      obtain ⟨t, ht⟩ : ∃ t, r[f - 1]? = some t := ⟨_, List.getElem?_eq_getElem (show f - 1 < r.length by omega)⟩
      obtain ⟨v, hv, at_, rfl, hat⟩ := Paired.get hps ht
      refine w_ixL sqr (at_of (j := f - 1) (by omega) hv) ?_
      have htz : t.length ≤ 1000 := hz t (mem_le ht)
      walk_at "go"
      refine pos_own (hp.mono hS) (fun sp hsp => ?_)
      walk_at "go"
      refine hsp at_ t _ _ (SqL.of (hS _ _ hat)) htz (fun H1 e1 => ?_)
      have hS1 := hS.trans e1
      have ho1 := e1 _ _ ho
      walk_at "go"
      refine pos_own (hq.mono hS1) (fun sp hsp => ?_)
      walk_at "go"
      refine hsp at_ t _ _ (SqL.of (hS1 _ _ hat)) htz (fun H2 e2 => ?_)
      have hS2 := hS1.trans e2
      have ho2 := e2 _ _ ho1
      have key : Vaflxa.taken r f p q = match Vaflxa.placeOf p t, Vaflxa.placeOf q t with
          | some a, some b => if 0 < f ∧ a < b then some (a, b) else none
          | _, _ => none := by
        unfold Vaflxa.taken
        rw [ht]
        rfl
      have non : Vaflxa.taken r f p q = none → Q .non H2 := fun e => q1 (by show (Vaflxa.taken r f p q).map _ = none; rw [e]; rfl) H2 (e1.trans e2)
      walk_at "go"
      cases ea : Vaflxa.placeOf p t with
      | none =>
        walk_at "go"
        refine w_if2 (fun _ => ?_) (fun z => absurd rfl (of_decide_eq_false z))
        walk_at "go"
        exact non (by rw [key, ea])
      | some i =>
        refine w_if2 (fun z => absurd (of_decide_eq_true z) (fun y => nomatch y)) (fun _ => ?_)
        walk_at "go"
        cases eb : Vaflxa.placeOf q t with
        | none =>
          refine w_if2 (fun _ => ?_) (fun z => absurd rfl (of_decide_eq_false z))
          walk_at "go"
          exact non (by rw [key, ea, eb])
        | some j =>
          refine w_if2 (fun z => absurd (of_decide_eq_true z) (fun y => nomatch y)) (fun _ => ?_)
          unfold vPlace
          walk_at "go"
          refine w_if2 (fun h2 => ?_) (fun h2 => ?_)
          · have h2 : (j : Int) ≤ (i : Int) := of_decide_eq_true h2
            walk_at "go"
            refine non ?_
            rw [key, ea, eb]
            dsimp only
            rw [if_neg (by omega)]
          · have h2 : ¬ (j : Int) ≤ (i : Int) := of_decide_eq_false h2
            have hjt := place_le eb
            have ek : Vaflxa.taken r f p q = some (i, j) := by
              rw [key, ea, eb]
              dsimp only
              rw [if_pos (by omega)]
            walk_at "go"
            refine w_cut (SqL.of (hS2 _ _ hat)) (fun c hc => ?_)
            rw [cutV_nat (by rw [vBs_length]; exact hjt)]
            have ec : ((vBs t).take j).drop i = vBs ((t.take j).drop i) := by
              unfold vBs
              rw [List.map_drop, List.map_take]
            rw [ec]
            have G2 : Grow nobody S H S H2 := Grow.same_ hS (e1.trans e2)
            have G3 := G2.trans (Grow.laid (o := .lst (vBs ((t.take j).drop i))) hS2 hc)
            have ho3 := G3.Same _ _ ho
            walk_at "go"
            refine ⟨rfl, _, c, (t.take j).drop i, k, rfl, G3.sub, upd_same, by rw [List.length_drop, List.length_take]; omega, fun S4 w H4 G4 hw => ?_⟩
            have ho4 := G4.Same _ _ ho3
            walk_at "go"
            refine w_new rfl (fun g d hg hd hne => ?_)
            have G5 := (G3.trans G4).trans (Grow.laid (o := .own g) G4.sub hd)
            have G6 := G5.trans (Grow.laid (o := .ins A.c_Given d (fo_Given [.ref w, .int (f : Nat), .int (i : Nat)])) (p := g) G5.sub (by rw [upd_ne (Ne.symm hne)]; exact hg))
            have er : r.getD (f - 1) [] = t := by rw [List.getD_eq_getElem?_getD, ht]; rfl
            refine q2 (Vaflxa.cased k ((t.take j).drop i)) ?_ _ g _ G6 ⟨d, w, ?_, ?_⟩
            · show (Vaflxa.taken r f p q).map _ = _
              rw [ek]
              show some (Vaflxa.cased k (((r.getD (f - 1) []).take j).drop i)) = _
              rw [er]
            · rw [upd_same]
              show some (HO.ins A.c_Given d (fs_Given (.ref w) (.int (f : Nat)) (.int (i : Nat)))) = some (HO.ins A.c_Given d (fs_Given (.ref w) (.int (f : Nat)) (.int ((((Vaflxa.taken r f p q).map fun s => s.1).getD 0 : Nat) : Int))))
              rw [ek]
              rfl
            · have ew : w ≠ g := fun z => by
                have := G4.sub _ _ hw
                rw [z, hg] at this
                cases this
              have ew2 : w ≠ d := fun z => by
                have := G4.sub _ _ hw
                rw [z, hd] at this
                cases this
              rw [upd_ne ew, upd_ne ew2]
              exact hw
end
section
variable {K : PySem.W.Frag} {mg : Str → Option Value} {A : Ads}
theorem piece_own {S H : Hp} {a : Addr} {x : Piece} {N : Sp → Prop} (hS : L2.Same S H) (h : PieceAt K A S a x) (q : ∀ sp : Sp, (∀ (rc : Addr) (r : List (List UInt8)) (Q : VK) (E : XK), RecAt S rc r → (∀ t ∈ r, t.length ≤ 1000) → r.length ≤ 1000 →
      (Vaflxa.pieceOut r x = none → ∀ H', L2.Same H H' → Q .non H') → (∀ t, Vaflxa.pieceOut r x = some t → ∀ S' g H', Grow nobody S H S' H' → GivenAt A S' g (t, srcOf r x) → Q (.ref g) H') → sp [.ref a, .ref rc] H Q E) → N sp) :
    IsOwnD (tb_Piece K A) "given_on" (.ref a) H N := by
  cases x with
  | const t =>
    have h' := h
    obtain ⟨dx, at_, ho, hk⟩ := h
    exact w_ownD (hS _ _ ho) nm_Constant_given_on (Or.inl ⟨rfl, rfl⟩) (q _ fun rc r Q E h1 h2 h3 h4 h5 => ⟨rfl, a, .const t, rc, r, S, rfl, trivial, hS, h', h1, h2, h3, h4, h5⟩)
  | sub f p q' k =>
    have h' := h
    obtain ⟨dx, ap, aq, ho, hk⟩ := h
    exact w_ownD (hS _ _ ho) nm_Part_given_on (Or.inr ⟨rfl, rfl⟩) (q _ fun rc r Q E h1 h2 h3 h4 h5 => ⟨rfl, a, .sub f p q' k, rc, r, S, rfl, trivial, hS, h', h1, h2, h3, h4, h5⟩)
def frontOk (gs : List G3) : Except Nat (List G3) → Except Nat (List G3)
  | .ok l => .ok (gs ++ l)
  | .error e => .error e
theorem frontOk_add (xs ys : List G3) (r : Except Nat (List G3)) : frontOk xs (frontOk ys r) = frontOk (xs ++ ys) r := by
  cases r with
  | error e => rfl
  | ok l =>
    show Except.ok (xs ++ (ys ++ l)) = Except.ok ((xs ++ ys) ++ l)
    rw [List.append_assoc]
theorem outs_cons (r : Vaflxa.Record) (i : Nat) (x : Piece) (l : Vaflxa.Program) : outsFrom r i (x :: l) = match Vaflxa.pieceOut r x with
    | none => .error i
    | some t => frontOk [(t, srcOf r x)] (outsFrom r (i + 1) l) := by
  rw [outsFrom]
  cases Vaflxa.pieceOut r x with
  | none => rfl
  | some t => cases outsFrom r (i + 1) l <;> rfl
theorem drop_get {α : Type} {l : List α} {i : Nat} {x : α} (h : l[i]? = some x) : l.drop i = x :: l.drop (i + 1) := by
  obtain ⟨h1, h2⟩ := List.getElem?_eq_some_iff.mp h
  rw [List.drop_eq_getElem_cons h1]
  rw [h2]
theorem pure_all_given (T : Fx K mg A) (vs : List V) (H : Hp) (Q : VK) (E : XK) (h : sp_all_given K A vs H Q E) : t_all_given K A E { nx := fun _ H' => Q .non H', rt := Q } (start ["program", "record", "found", "number", "piece", "given"] vs) H := by
  obtain ⟨_, pr, l, rc, r, S, rfl, hS, hp, hr, hz, hl, q1, q2⟩ := h
  obtain ⟨xs, hpr, hps, hl6⟩ := hp
  unfold t_all_given
  walk_at "go"
  refine w_obj (show 0 ≤ 1000000 by decide) (fun f hf => ?_)
  walk_at "go"
  have G0 : Grow nobody S H S (upd H f (.lst [])) := Grow.made hS hf
  have nf : pr ≠ f := fun z => by
    have := hS _ _ hpr
    rw [z, hf] at this
    cases this
  refine w_isfore (xs := xs) (fun i σ H' => ∃ S' vs' gs v3 v4 v5, σ = [some (.ref pr), some (.ref rc), some (.ref f), v3, v4, v5] ∧ Grow nobody S H S' H' ∧ H' f = some (.lst vs') ∧ S' f = none ∧ Paired (IsGiven A S') vs' gs ∧ vs'.length = i ∧ outsFrom r 0 l = frontOk gs (outsFrom r i (l.drop i))) (SqL.of (G0.Same _ _ (hS _ _ hpr)))
    ⟨S, [], [], none, none, none, rfl, G0, upd_same, hS.free hf, .nil, rfl, by rw [List.drop_zero]; cases outsFrom r 0 l <;> rfl⟩
    (fun i σ H' _ ⟨S', vs', gs, v3, v4, v5, _, G, _⟩ => SqL.of (G.Same _ _ (hS _ _ hpr))) ?_ ?_
  · rintro i x W σ H' hx hW ⟨S', vs', gs, v3, v4, v5, rfl, G, hfl, sf, hg, hi, key⟩
    obtain ⟨y, hy, a, rfl, ha⟩ := Paired.get' hps hx
    rw [drop_get hy, outs_cons] at key
    refine w_gtup2 (SqT.of upd_same) ?_
    have G1 := G.trans (Grow.made (o := .tup [.int (i : Nat), .ref a]) G.sub hW)
    have hf1 : (upd H' W (.tup [.int (i : Nat), .ref a])) f = some (.lst vs') := same_upd hW _ _ hfl
    walk_at "go"
    refine piece_own G1.sub (ha.mono G1.up) (fun sp hsp => ?_)
    walk_at "go"
    refine hsp rc r _ _ (hr.mono G1.up) hz hl (fun hno H2 e2 => ?_) (fun t ht S2 g H2 G2 hgv => ?_)
    · rw [hno] at key
      walk_at "go"
      refine w_if2 (fun _ => ?_) (fun z => absurd rfl (of_decide_eq_false z))
      walk_at "go"
      refine ⟨rfl, fun d hd => ?_⟩
      exact q1 i key _ d ((G1.Same.trans e2).trans (same_upd hd)) upd_same
    · rw [ht] at key
      dsimp only at key
      rw [frontOk_add] at key
      walk_at "go"
      refine w_if2 (fun z => absurd (of_decide_eq_true z) (fun y => nomatch y)) (fun _ => ?_)
      have hf2 : H2 f = some (.lst vs') := G2.Same _ _ hf1
      have s2 : S2 f = none := G2.out (by rw [hf1]; exact fun z => nomatch z) sf
      have hlt : i < xs.length := (List.getElem?_eq_some_iff.mp hx).1
      have hxl : xs.length = l.length := Paired.len hps
      walk_at "go"
      refine w_app hf2 (by rw [hi]; exact Nat.lt_of_lt_of_le (show i < 100 by omega) (by decide)) ?_
      refine ⟨S2, vs' ++ [.ref g], gs ++ [(t, srcOf r y)], _, _, _, rfl, (G1.trans G2).put_new hf (by rw [hf2]; exact fun z => nomatch z) s2, upd_same, s2, ?_, by rw [List.length_append, hi]; rfl, key⟩
      exact Paired.snoc (Paired.mapP hg fun _ _ z => z.mono G2.up) ⟨g, rfl, hgv⟩
  · rintro σ H' ⟨S', vs', gs, v3, v4, v5, rfl, G, hfl, sf, hg, hi, key⟩
    walk_at "go"
    have hxl : xs.length = l.length := Paired.len hps
    rw [hxl, List.drop_length] at key
    have key : outsFrom r 0 l = .ok (gs ++ []) := key
    rw [List.append_nil] at key
    refine q2 gs key _ f H' vs' (G.fix hf hfl) upd_same ?_
    exact Paired.mapP hg fun _ _ z => z.mono (same_upd sf)
theorem all_id_map {f : UInt8 → Bool} (l : List UInt8) : (l.map f).all id = l.all f := by
  induction l with
  | nil => rfl
  | cons c l ih => rw [List.map_cons, List.all_cons, List.all_cons, ih]; rfl
theorem pure_is_plain (T : Fx K mg A) (vs : List V) (H : Hp) (Q : VK) (E : XK) (h : sp_is_plain K A vs H Q E) : t_is_plain K A E { nx := fun _ H' => Q .non H', rt := Q } (start ["text", "longest", "byte"] vs) H := by
  obtain ⟨_, t, bs, n, rfl, ht, hz, q⟩ := h
  unfold t_is_plain
  walk_at "go"
  rw [vBs_length]
  refine w_if2 (fun h1 => ?_) (fun h1 => ?_)
  · have h1 : (n : Int) < (bs.length : Int) := of_decide_eq_true h1
    walk_at "go"
    have e : Vaflxa.goodText n bs = false := by
      unfold Vaflxa.goodText
      rw [decide_eq_false (by omega), Bool.false_and]
    have q := q H (L2.Same.refl H)
    rw [e] at q
    exact q
  · have h1 : ¬ (n : Int) < (bs.length : Int) := of_decide_eq_false h1
    walk_at "go"
    refine w_lcmap (ys := (bs.map Vaflxa.isByte).map V.bl) ht (by rw [vBs_length]; omega) (by rw [vBs_length, List.length_map, List.length_map]) ?_ (fun D hD => ?_)
    · intro D i x y hD hx hy Q' q'
      obtain ⟨c, hc, rfl⟩ := map_get hx
      rw [List.getElem?_map, List.getElem?_map, hc] at hy
      obtain rfl := Option.some.inj hy
      have e := byte_in c
      unfold vB
      walk_at "go"
      refine w_if2 (fun h2 => ?_) (fun h2 => ?_)
      · walk_at "go"
        have e2 : Vaflxa.isByte c = decide ((c.toNat : Int) ≤ 126) := by
          rw [← e]
          show (decide ((32 : Int) ≤ (c.toNat : Int)) && decide ((c.toNat : Int) ≤ 126)) = _
          rw [h2, Bool.true_and]
        rw [← e2]
        exact q'
      · have e2 : Vaflxa.isByte c = false := by
          rw [← e]
          show (decide ((32 : Int) ≤ (c.toNat : Int)) && decide ((c.toNat : Int) ≤ 126)) = _
          rw [h2, Bool.false_and]
        rw [← e2]
        exact q'
    · walk_at "go"
      refine w_all (bs := bs.map Vaflxa.isByte) (SqL.of upd_same) ?_
      have e : Vaflxa.goodText n bs = (bs.map Vaflxa.isByte).all id := by
        unfold Vaflxa.goodText
        rw [decide_eq_true (by omega), Bool.true_and, all_id_map]
      rw [← e]
      exact q _ (same_upd hD)
theorem pure_is_field (T : Fx K mg A) (vs : List V) (H : Hp) (Q : VK) (E : XK) (h : sp_is_field K A vs H Q E) : t_is_field K A E { nx := fun _ H' => Q .non H', rt := Q } (start ["text"] vs) H := by
  obtain ⟨_, t, bs, rfl, ht, hz, q⟩ := h
  unfold t_is_field
  walk_at "go"
  exact ⟨rfl, t, bs, 40, rfl, ht, hz, q⟩
theorem flat_snoc (gs : List G3) (i : Nat) (g : G3) (h : gs[i]? = some g) : flat (gs.take (i + 1)) = flat (gs.take i) ++ g.1 := by
  unfold flat
  rw [List.take_add_one, h, List.flatMap_append]
  show _ ++ [g].flatMap _ = _
  rw [List.flatMap_singleton]
theorem flat_len0 : ∀ (gs : List G3), (∀ g ∈ gs, g.1.length ≤ 1000) → (flat gs).length ≤ 1000 * gs.length
  | [], _ => Nat.zero_le _
  | g :: gs, h => by
    have ih := flat_len0 gs fun x hx => h x (List.mem_cons_of_mem _ hx)
    have := h g List.mem_cons_self
    unfold flat at ih ⊢
    rw [List.flatMap_cons, List.length_append, List.length_cons]
    omega
theorem pure_joined (T : Fx K mg A) (vs : List V) (H : Hp) (Q : VK) (E : XK) (h : sp_joined K A vs H Q E) : t_joined K A E { nx := fun _ H' => Q .non H', rt := Q } (start ["givens", "text", "given"] vs) H := by
  obtain ⟨_, a, ws, gs, rfl, sq, hp, hz, hl, q⟩ := h
  have hlen : ws.length = gs.length := Paired.len hp
  unfold t_joined
  walk_at "go"
  refine w_obj (show 0 ≤ 1000000 by decide) (fun p hpn => ?_)
  walk_at "go"
  refine w_isforl (xs := ws) (fun i σ H' => H' = upd H p (.lst (vBs (flat (gs.take i)))) ∧ ∃ v, σ = [some (.ref a), some (.ref p), v]) (SqL.upd sq hpn) ⟨rfl, none, rfl⟩
    (fun i σ H' _ z => by rw [z.1]; exact SqL.upd sq hpn) ?_ ?_
  · rintro i x σ H' hi ⟨rfl, v, rfl⟩
    obtain ⟨g, hgi, b, rfl, dg, at_, hb, hat⟩ := Paired.get' hp hi
    have hil : i < gs.length := (List.getElem?_eq_some_iff.mp hgi).1
    have hb1 := same_upd (o := .lst (vBs (flat (gs.take i)))) hpn _ _ hb
    have hat1 := same_upd (o := .lst (vBs (flat (gs.take i)))) hpn _ _ hat
    have hgz := hz g (List.mem_of_getElem? hgi)
    have hfz := flat_len0 (gs.take i) fun x hx => hz x (List.mem_of_mem_take hx)
    rw [List.length_take, Nat.min_eq_left (by omega)] at hfz
    walk_at "go"
    refine w_tyL upd_same ?_
    walk_at "go"
    refine w_ext (ys := vBs g.1) upd_same hat1 ?_ ?_
    · rw [vBs_length, vBs_length]
      exact Nat.le_trans (show _ ≤ 2000000 by omega) (by decide)
    · rw [upd_upd]
      refine ⟨?_, _, rfl⟩
      rw [flat_snoc gs i g hgi]
      unfold vBs
      rw [List.map_append]
  · rintro σ H' ⟨rfl, v, rfl⟩
    walk_at "go"
    rw [hlen, List.take_length]
    exact q p hpn
theorem all_id_map' {f : List UInt8 → Bool} (l : List (List UInt8)) : (l.map f).all id = l.all f := by
  induction l with
  | nil => rfl
  | cons c l ih => rw [List.map_cons, List.all_cons, List.all_cons, ih]; rfl
end
section
variable {K : PySem.W.Frag} {mg : Str → Option Value} {A : Ads}
/-- a comprehension whose elements' values leave what was as it was -/
theorem w_lcsame {σ : L2.St} {H : Hp} {te : TE} {Q : VK} {a : Addr} {xs ys : List V} {j : Nat} (h : SqL K H a xs) (hz : xs.length ≤ 1000000) (hlen : ys.length = xs.length)
    (he : ∀ (i : Nat) (x y : V) (H' : Hp), xs[i]? = some x → ys[i]? = some y → Same H H' → ∀ Q : VK, (∀ H2, Same H' H2 → Q y H2) → te ((σ.set j none).set j (some x)) H' Q)
    (q : ∀ D H', H D = none → Same H H' → H' D = some (.lst ys) → Q (.ref D) H') : IsLcL K (gName j) tYes te [j] σ (.ref a) H Q := by
  refine ⟨a, rfl, ⟨xs, h⟩, fun D hD => ?_⟩
  refine lc_list (xs := xs) (fun i H' => Same H H' ∧ H' D = some (.lst (ys.take i))) ⟨same_upd hD, upd_same⟩ (fun i H' _ e => e.1.seq h) ?_ ?_
  · rintro i x H' hi ⟨hs, hd⟩
    obtain ⟨y, hy⟩ : ∃ y, ys[i]? = some y := ⟨_, List.getElem?_eq_getElem (by rw [hlen]; exact (List.getElem?_eq_some_iff.mp hi).1)⟩
    refine ⟨wipe_one, ?_⟩
    show (if true = true then te ((wipe σ [j]).set j (some x)) H' (fun y H4 => ∃ acc, H4 D = some (.lst acc) ∧ acc.length < sizeLine ∧ Same H (upd H4 D (.lst (acc ++ [y]))) ∧ (upd H4 D (.lst (acc ++ [y]))) D = some (.lst (ys.take (i + 1)))) else Same H H' ∧ H' D = some (.lst (ys.take (i + 1))))
    rw [if_pos rfl]
    refine he i x y H' hi hy hs _ (fun H2 e2 => ⟨_, e2 _ _ hd, ?_, fun b u e => ?_, ?_⟩)
    · rw [List.length_take]
      have bnd := (List.getElem?_eq_some_iff.mp hi).1
      exact Nat.lt_of_lt_of_le (show min i ys.length < 2000000 by omega) (by decide)
    · rw [upd_ne (ne_of_none e hD)]
      exact e2 _ _ (hs _ _ e)
    · rw [upd_same, List.take_add_one, hy]
      rfl
  · rintro H' ⟨hs, hd⟩
    have e : ys.take xs.length = ys := by rw [← hlen, List.take_length]
    rw [e] at hd
    exact q D H' hD hs hd
theorem pure_is_record (T : Fx K mg A) (vs : List V) (H : Hp) (Q : VK) (E : XK) (h : sp_is_record K A vs H Q E) : t_is_record K A E { nx := fun _ H' => Q .non H', rt := Q } (start ["texts", "text"] vs) H := by
  obtain ⟨_, a, ts, rfl, ⟨xs, hx, hp⟩, hz, hl, q⟩ := h
  have sq : SqL K H a xs := SqL.of hx
  have hlen : xs.length = ts.length := Paired.len hp
  have q0 := q H (Same.refl H)
  unfold t_is_record
  walk_at "go"
  refine w_eq rfl ?_
  walk_at "go"
  rw [hlen]
  refine w_if2 (fun h1 => ?_) (fun h1 => ?_)
  · have h1 : (ts.length : Int) = 0 := V.int.inj (of_decide_eq_true h1)
    walk_at "go"
    have e : Vaflxa.goodRecord ts = false := by
      unfold Vaflxa.goodRecord
      rw [decide_eq_false (by omega), Bool.false_and, Bool.false_and]
    rw [e] at q0
    exact q0
  · have h1 : ¬ V.int (ts.length : Int) = V.int 0 := of_decide_eq_false h1
    have h1 : ts.length ≠ 0 := fun z => h1 (by rw [z]; rfl)
    walk_at "go"
    rw [hlen]
    refine w_if2 (fun h2 => ?_) (fun h2 => ?_)
    · have h2 : (4 : Int) < (ts.length : Int) := of_decide_eq_true h2
      walk_at "go"
      have e : Vaflxa.goodRecord ts = false := by
        unfold Vaflxa.goodRecord
        have z : decide (ts.length ≤ Vaflxa.MOST_FIELDS) = false := decide_eq_false (by show ¬ ts.length ≤ 4; omega)
        rw [z, Bool.and_false, Bool.false_and]
      rw [e] at q0
      exact q0
    · have h2 : ¬ (4 : Int) < (ts.length : Int) := of_decide_eq_false h2
      walk_at "go"
      refine w_lcsame (ys := (ts.map (Vaflxa.goodText 40)).map V.bl) sq (by omega) (by rw [List.length_map, List.length_map, hlen]) ?_ (fun D H' hD hs hd => ?_)
      · intro i x y H' hi hy hs Q' q'
        obtain ⟨t, ht, b, rfl, hb⟩ := Paired.get' hp hi
        rw [List.getElem?_map, List.getElem?_map, ht] at hy
        obtain rfl := Option.some.inj hy
        walk_at "go"
        exact ⟨rfl, b, t, rfl, SqL.of (hs _ _ hb), hz t (mem_le ht), fun H2 e2 => q' H2 e2⟩
      · walk_at "go"
        refine w_all (bs := ts.map (Vaflxa.goodText 40)) (SqL.of hd) ?_
        have e : Vaflxa.goodRecord ts = (ts.map (Vaflxa.goodText 40)).all id := by
          unfold Vaflxa.goodRecord
          have z : decide (ts.length ≤ Vaflxa.MOST_FIELDS) = true := decide_eq_true (by show ts.length ≤ 4; omega)
          rw [decide_eq_true (by omega), z, Bool.true_and, Bool.true_and, all_id_map']
          rfl
        rw [← e]
        exact q H' hs
theorem numbers_map (t : List UInt8) : (Vaflxk.numbers t).map V.int = vBs t := by
  unfold Vaflxk.numbers vBs
  rw [List.map_map]
  rfl
theorem told_len : ∀ (l : List (List UInt8)), (∀ t ∈ l, t.length ≤ 1000) → (l.flatMap Vaflxk.counted).length ≤ 1001 * l.length
  | [], _ => Nat.zero_le _
  | t :: l, h => by
    have ih := told_len l fun x hx => h x (List.mem_cons_of_mem _ hx)
    have ht := h t List.mem_cons_self
    rw [List.flatMap_cons, List.length_append, List.length_cons]
    have e : (Vaflxk.counted t).length = t.length + 1 := by
      unfold Vaflxk.counted Vaflxk.numbers
      rw [List.length_cons, List.length_map]
    rw [e]
    omega
theorem pure_told_record (T : Fx K mg A) (vs : List V) (H : Hp) (Q : VK) (E : XK) (h : sp_told_record K A vs H Q E) : t_told_record K A E { nx := fun _ H' => Q .non H', rt := Q } (start ["record", "told", "field"] vs) H := by
  obtain ⟨_, a, r, rfl, ⟨xs, hx, hp⟩, hz, hl, q⟩ := h
  have sq : SqL K H a xs := SqL.of hx
  have hlen : xs.length = r.length := Paired.len hp
  unfold t_told_record
  walk_at "go"
  refine w_obj (show 1 ≤ 1000000 by decide) (fun p hpn => ?_)
  rw [hlen]
  walk_at "go"
  refine w_isforl (xs := xs) (fun i σ H' => H' = upd H p (.lst ((Vaflxk.nat r.length :: (r.take i).flatMap Vaflxk.counted).map V.int)) ∧ ∃ v, σ = [some (.ref a), some (.ref p), v]) (SqL.upd sq hpn) ⟨rfl, none, rfl⟩
    (fun i σ H' _ z => by rw [z.1]; exact SqL.upd sq hpn) ?_ ?_
  · rintro i x σ H' hi ⟨rfl, v, rfl⟩
    obtain ⟨t, ht, b, rfl, hb⟩ := Paired.get' hp hi
    have hb1 : (upd H p (.lst ((Vaflxk.nat r.length :: (r.take i).flatMap Vaflxk.counted).map V.int))) b = some (.lst (vBs t)) := same_upd hpn _ _ hb
    have sb : SqL K (upd H p (.lst ((Vaflxk.nat r.length :: (r.take i).flatMap Vaflxk.counted).map V.int))) b (vBs t) := SqL.of hb1
    have htz := hz t (mem_le ht)
    have hit : i < r.length := (List.getElem?_eq_some_iff.mp ht).1
    have hb0 : ((Vaflxk.nat r.length :: (r.take i).flatMap Vaflxk.counted).map V.int).length ≤ 1001 * i + 1 := by
      rw [List.length_map, List.length_cons]
      have := told_len (r.take i) fun x hx => hz x (List.mem_of_mem_take hx)
      rw [List.length_take, Nat.min_eq_left (by omega)] at this
      omega
    walk_at "go"
    refine w_tyL upd_same ?_
    walk_at "go"
    rw [vBs_length]
    refine w_app upd_same (Nat.lt_of_le_of_lt hb0 (Nat.lt_of_lt_of_le (show 1001 * i + 1 < 2000000 by omega) (by decide))) ?_
    walk_at "go"
    rw [upd_upd]
    refine w_tyL upd_same ?_
    walk_at "go"
    refine w_ext (ys := vBs t) upd_same (same_upd hpn _ _ hb) ?_ ?_
    · rw [List.length_append, List.length_singleton, vBs_length]
      exact Nat.le_trans (show _ ≤ 3000000 by omega) (by decide)
    · rw [upd_upd]
      refine ⟨?_, _, rfl⟩
      congr 2
      rw [List.take_add_one, ht, List.flatMap_append, List.map_cons, List.map_cons, List.map_append]
      show _ ++ [V.int (t.length : Int)] ++ vBs t = _ :: (_ ++ (([t].flatMap Vaflxk.counted).map V.int))
      have e : ([t].flatMap Vaflxk.counted).map V.int = V.int (t.length : Int) :: vBs t := by
        rw [List.flatMap_singleton, ← numbers_map]
        rfl
      rw [e, List.append_assoc]
      rfl
  · rintro σ H' ⟨rfl, v, rfl⟩
    walk_at "go"
    rw [hlen, List.take_length]
    exact q p hpn
theorem text_is {l : List Int} {t : List UInt8} (h : VaflxkNeutral.text? l = some t) : l.map V.int = vBs t := by
  unfold VaflxkNeutral.text? at h
  split at h
  · rename_i hb
    obtain rfl := Option.some.inj h
    unfold vBs
    rw [List.map_map]
    refine List.map_congr_left fun b hbm => ?_
    have hb2 := List.all_eq_true.mp hb b hbm
    have hb2 : (decide (0 ≤ b) && decide (b ≤ 255)) = true := hb2
    rw [Bool.and_eq_true, decide_eq_true_eq, decide_eq_true_eq] at hb2
    show V.int b = V.int ((UInt8.ofNat b.toNat).toNat : Int)
    rw [UInt8.toNat_ofNat']
    congr 1
    omega
  · cases h
theorem int_get {ns : List Int} {i : Nat} {z : Int} (h : ns[i]? = some z) : (ns.map V.int)[i]? = some (V.int z) := by
  rw [List.getElem?_map, h]
  rfl
theorem cut_ints {ns : List Int} {a b : Nat} (h : b ≤ ns.length) : cutV (ns.map V.int) (some (a : Int)) (some (b : Int)) = ((ns.take b).drop a).map V.int := by
  rw [cutV_nat (by rw [List.length_map]; exact h), List.map_drop, List.map_take]
theorem texts_step {n : Nat} {l : List Int} {ts : List (List UInt8)} (h : VaflxkNeutral.texts? n l = some ts) : (l = [] ∧ ts = []) ∨ ∃ m k r t ts', n = m + 1 ∧ l = k :: r ∧ ts = t :: ts' ∧ 0 ≤ k ∧ k.toNat ≤ r.length ∧ VaflxkNeutral.text? (r.take k.toNat) = some t ∧ VaflxkNeutral.texts? m (r.drop k.toNat) = some ts' := by
  cases l with
  | nil =>
    refine Or.inl ⟨rfl, ?_⟩
    cases n <;> exact (Option.some.inj h).symm
  | cons k r =>
    cases n with
    | zero => cases h
    | succ m =>
      rw [VaflxkNeutral.texts?] at h
      split at h
      · cases h
      · rename_i hk
        split at h
        · rename_i t l' e1 e2
          obtain rfl := Option.some.inj h
          exact Or.inr ⟨m, k, r, t, l', rfl, rfl, rfl, by omega, by omega, e1, e2⟩
        · cases h
theorem pure_split_texts (T : Fx K mg A) (vs : List V) (H : Hp) (Q : VK) (E : XK) (h : sp_split_texts K A vs H Q E) : t_split_texts K A E { nx := fun _ H' => Q .non H', rt := Q } (start ["numbers", "texts", "place", "begin"] vs) H := by
  obtain ⟨_, a, ns, ts, S, rfl, hS, ha, hz, ht, q⟩ := h
  unfold t_split_texts
  walk_at "go"
  refine w_obj (show 0 ≤ 1000000 by decide) (fun l hl => ?_)
  walk_at "go"
  have G0 : Grow nobody S H S (upd H l (.lst [])) := Grow.made hS hl
  refine w_while (fun m σ H' => ∃ (p n : Nat) (vs' : List V) (t1 t2 : List (List UInt8)) (S' : Hp) (v3 : Option V), σ = [some (.ref a), some (.ref l), some (.int (p : Nat)), v3] ∧ m = ns.length - p ∧ p ≤ ns.length ∧ Grow nobody S H S' H' ∧ H' l = some (.lst vs') ∧ S' l = none ∧ Paired (IsText S') vs' t1 ∧ t1.length ≤ p ∧ ts = t1 ++ t2 ∧ VaflxkNeutral.texts? n (ns.drop p) = some t2) _
    ⟨0, ns.length, [], [], ts, S, none, rfl, rfl, Nat.zero_le _, G0, upd_same, hS.free hl, .nil, Nat.zero_le _, rfl, by rw [List.drop_zero]; exact ht⟩ ?_
  rintro m σ H' ⟨p, n, vs', t1, t2, S', v3, rfl, rfl, hpn, G, hlst, sl, hp, ht1, rfl, htx⟩
  have sa : SqL K H' a (ns.map V.int) := Same.seq (G.up.trans G.sub) ha
  walk_at "go"
  rw [List.length_map]
  refine w_if2 (fun h1 => ?_) (fun h1 => ?_)
  · have h1 : (p : Int) < (ns.length : Int) := of_decide_eq_true h1
    rcases texts_step htx with ⟨e, _⟩ | ⟨n', k, r, t, ts', rfl, e, rfl, hk0, hkr, e1, e2⟩
    · have : (ns.drop p).length = 0 := by rw [e]; rfl
      rw [List.length_drop] at this
      omega
    · have hk : ns[p]? = some k := by
        rw [← List.head?_drop, e]
        rfl
      have er : r = ns.drop (p + 1) := by
        rw [← List.tail_drop, e]
        rfl
      have hrl : r.length = ns.length - (p + 1) := by rw [er, List.length_drop]
      obtain ⟨k, rfl⟩ := Int.eq_ofNat_of_zero_le hk0
      have hkr : k ≤ r.length := hkr
      have e1 : VaflxkNeutral.text? (r.take k) = some t := e1
      have e2 : VaflxkNeutral.texts? n' (r.drop k) = some ts' := e2
      refine w_turn ?_
      walk_at "go"
      refine w_ixL sa (at_of (j := p) rfl (int_get hk)) ?_
      walk_at "go"
      have eb : (p : Int) + 1 = ((p + 1 : Nat) : Int) := by omega
      have ep : (p : Int) + 1 + (k : Int) = ((p + 1 + k : Nat) : Int) := by omega
      refine w_cut sa (fun c hc => ?_)
      rw [ep, eb, cut_ints (by omega)]
      have ec : ((ns.take (p + 1 + k)).drop (p + 1)).map V.int = vBs t := by
        rw [← text_is e1, er]
        congr 1
        rw [List.drop_take]
        congr 1
        omega
      rw [ec]
      have G1 := G.trans (Grow.laid (o := .lst (vBs t)) G.sub hc)
      have nlc : l ≠ c := fun z => by rw [z, hc] at hlst; cases hlst
      have hl1 : (upd H' c (.lst (vBs t))) l = some (.lst vs') := by rw [upd_ne nlc]; exact hlst
      have sl1 : (upd S' c (.lst (vBs t))) l = none := by rw [upd_ne nlc]; exact sl
      have hvl : vs'.length = t1.length := Paired.len hp
      walk_at "go"
      refine w_app hl1 (by rw [hvl]; exact Nat.lt_of_lt_of_le (show t1.length < 100000 by omega) (by decide)) ?_
      refine ⟨_, ?_, p + 1 + k, n', vs' ++ [.ref c], t1 ++ [t], ts', _, _, rfl, rfl, by omega, G1.put_new hl (by rw [hl1]; exact fun z => nomatch z) sl1, upd_same, sl1, ?_, ?_, ?_, ?_⟩
      · omega
      · exact Paired.snoc (Paired.mapP hp fun _ _ z => z.mono (same_upd (G.sub.free hc))) ⟨c, rfl, upd_same⟩
      · rw [List.length_append, List.length_singleton]
        omega
      · rw [List.append_assoc]
        rfl
      · rw [er, List.drop_drop] at e2
        exact e2
  · have h1 : ¬ (p : Int) < (ns.length : Int) := of_decide_eq_false h1
    walk_at "go"
    have e : ns.drop p = [] := List.drop_eq_nil_of_le (by omega)
    rw [e] at htx
    have e2 : t2 = [] := by cases n <;> exact (Option.some.inj htx).symm
    subst e2
    refine q _ l H' (G.fix hl hlst) ⟨vs', upd_same, ?_⟩
    rw [List.append_nil]
    exact Paired.mapP hp fun _ _ z => z.mono (same_upd sl)
end
section
variable {K : PySem.W.Frag} {mg : Str → Option Value} {A : Ads}
theorem shape_tab {k : Int} {n kk : Nat} (h : PyVaflxk.shape k = some (n, kk)) : ∃ i : Nat, k = (i : Int) ∧ shapeTab[i]? = some ((n : Int), decide (kk = 1)) ∧ (kk = 0 ∨ kk = 1) := by
  unfold PyVaflxk.shape at h
  split at h
  · rename_i e; cases h; exact ⟨0, e, rfl, Or.inr rfl⟩
  split at h
  · rename_i e; cases h; exact ⟨1, e, rfl, Or.inr rfl⟩
  split at h
  · rename_i e; cases h; exact ⟨2, e, rfl, Or.inl rfl⟩
  split at h
  · rename_i e; cases h; exact ⟨3, e, rfl, Or.inl rfl⟩
  split at h
  · rename_i e; cases h; exact ⟨4, e, rfl, Or.inl rfl⟩
  split at h
  · rename_i e; cases h; exact ⟨5, e, rfl, Or.inl rfl⟩
  split at h
  · rename_i e; cases h; exact ⟨6, e, rfl, Or.inl rfl⟩
  split at h
  · rename_i e; cases h; exact ⟨7, e, rfl, Or.inr rfl⟩
  split at h
  · rename_i e; cases h; exact ⟨8, e, rfl, Or.inr rfl⟩
  split at h
  · rename_i e; cases h; exact ⟨9, e, rfl, Or.inr rfl⟩
  split at h
  · rename_i e; cases h; exact ⟨10, e, rfl, Or.inl rfl⟩
  split at h
  · rename_i e; cases h; exact ⟨11, e, rfl, Or.inl rfl⟩
  · cases h
theorem row_is {l x s : List Int} (h : PyFlat.row l = some (x, s)) : ∃ m r, l = m :: r ∧ 0 ≤ m ∧ m.toNat ≤ r.length ∧ x = r.take m.toNat ∧ s = r.drop m.toNat := by
  cases l with
  | nil => cases h
  | cons m r =>
    rw [PyFlat.row] at h
    split at h
    · rename_i hk
      have h := Option.some.inj h
      injection h with h1 h2
      exact ⟨m, r, rfl, hk.1, hk.2, h1.symm, h2.symm⟩
    · cases h
theorem calls_step {f : Nat} {l : List Int} {cs : List (List (List Int))} (h : PyFlat.calls PyVaflxk.shape f l = some cs) : (l = [] ∧ cs = []) ∨ ∃ f' p r n kk c t cs', f = f' + 1 ∧ l = p :: r ∧ cs = c :: cs' ∧ PyVaflxk.shape p = some (n, kk) ∧ n ≤ r.length ∧ (kk = 0 → c = [p :: r.take n] ∧ t = r.drop n) ∧
    (kk = 1 → ∃ m s, r.drop n = m :: s ∧ 0 ≤ m ∧ m.toNat ≤ s.length ∧ c = [p :: r.take n, s.take m.toNat] ∧ t = s.drop m.toNat) ∧ PyFlat.calls PyVaflxk.shape f' t = some cs' := by
  cases l with
  | nil =>
    refine Or.inl ⟨rfl, ?_⟩
    cases f <;> exact (Option.some.inj h).symm
  | cons p r =>
    cases f with
    | zero => cases h
    | succ f' =>
      rw [PyFlat.calls] at h
      cases e1 : PyFlat.call PyVaflxk.shape (p :: r) with
      | none => rw [e1] at h; cases h
      | some ct =>
        obtain ⟨c, t⟩ := ct
        rw [e1] at h
        dsimp only at h
        cases e2 : PyFlat.calls PyVaflxk.shape f' t with
        | none => rw [e2] at h; cases h
        | some cs' =>
          rw [e2] at h
          have h := Option.some.inj h
          rw [PyFlat.call] at e1
          cases e3 : PyVaflxk.shape p with
          | none => rw [e3] at e1; cases e1
          | some nk =>
            obtain ⟨n, kk⟩ := nk
            rw [e3] at e1
            dsimp only at e1
            split at e1
            · cases e1
            · rename_i hlt
              obtain ⟨i, _, _, hkk⟩ := shape_tab e3
              refine Or.inr ⟨f', p, r, n, kk, c, t, cs', rfl, rfl, h.symm, e3, by omega, ?_, ?_, e2⟩
              · rintro rfl
                rw [PyFlat.rows] at e1
                have e1 := Option.some.inj e1
                injection e1 with z1 z2
                exact ⟨z1.symm, z2.symm⟩
              · rintro rfl
                rw [PyFlat.rows] at e1
                cases e4 : PyFlat.row (r.drop n) with
                | none => rw [e4] at e1; cases e1
                | some xs =>
                  obtain ⟨x, s⟩ := xs
                  rw [e4] at e1
                  dsimp only at e1
                  rw [PyFlat.rows] at e1
                  have e1 := Option.some.inj e1
                  injection e1 with z1 z2
                  obtain ⟨m, r', h1, h2, h3, h4, h5⟩ := row_is e4
                  exact ⟨m, r', h1, h2, h3, by rw [← z1, h4], by rw [← z2, h5]⟩
theorem CallAt.mono {S S' : Hp} {a : Addr} {c : List (List Int)} (h : CallAt A S a c) (e : Same S S') : CallAt A S' a c := by
  obtain ⟨dx, an, ar, k, ns, row, h1, h2, h3, h4⟩ := h
  exact ⟨dx, an, ar, k, ns, row, e _ _ h1, e _ _ h2, e _ _ h3, h4⟩
theorem IsCall.mono {S S' : Hp} {v : V} {c : List (List Int)} (h : IsCall A S v c) (e : Same S S') : IsCall A S' v c := by
  obtain ⟨a, rfl, h1⟩ := h
  exact ⟨a, rfl, h1.mono e⟩
/-- a new instance that never changes -/
theorem Grow.inst {r : Addr → Prop} {S H : Hp} {x d C : Addr} {fs : List (Str × V)} (hS : L2.Same S H) (hx : H x = none) (hd : H d = none) (hne : d ≠ x) :
    Grow r S H (upd (upd S d (.own x)) x (.ins C d fs)) (upd (upd H d (.own x)) x (.ins C d fs)) := by
  have G1 : Grow r S H _ _ := Grow.laid (o := .own x) hS hd
  exact G1.trans (Grow.laid (o := .ins C d fs) (p := x) G1.sub (by rw [upd_ne (Ne.symm hne)]; exact hx))
theorem pure_split_calls (T : Fx K mg A) (B : Tabs K A) (vs : List V) (H : Hp) (Q : VK) (E : XK) (h : sp_split_calls K A vs H Q E) : t_split_calls K A E { nx := fun _ H' => Q .non H', rt := Q } (start ["calls", "found", "place", "kind", "shape", "begin", "numbers", "row"] vs) H := by
  obtain ⟨_, a, ns, cs, S, rfl, hS, ha, hz, hc, q⟩ := h
  obtain ⟨shs, hw, hsh⟩ := B.shp
  unfold t_split_calls
  walk_at "go"
  refine w_obj (show 0 ≤ 1000000 by decide) (fun l hl => ?_)
  walk_at "go"
  have G0 : Grow nobody S H S (upd H l (.lst [])) := Grow.made hS hl
  refine w_while (fun m σ H' => ∃ (p n : Nat) (vs' : List V) (c1 c2 : List (List (List Int))) (S' : Hp) (v3 v4 v5 v6 v7 : Option V), σ = [some (.ref a), some (.ref l), some (.int (p : Nat)), v3, v4, v5, v6, v7] ∧ m = ns.length - p ∧ p ≤ ns.length ∧ Grow nobody S H S' H' ∧ H' l = some (.lst vs') ∧ S' l = none ∧
      Paired (IsCall A S') vs' c1 ∧ c1.length ≤ p ∧ cs = c1 ++ c2 ∧ PyFlat.calls PyVaflxk.shape n (ns.drop p) = some c2) _
    ⟨0, ns.length, [], [], cs, S, none, none, none, none, none, rfl, rfl, Nat.zero_le _, G0, upd_same, hS.free hl, .nil, Nat.zero_le _, rfl, by rw [List.drop_zero]; exact hc⟩ ?_
  rintro m σ H' ⟨p, n, vs', c1, c2, S', v3, v4, v5, v6, v7, rfl, rfl, hpn, G, hlst, sl, hp, hc1, rfl, hcx⟩
  have sa : SqL K H' a (ns.map V.int) := Same.seq (G.up.trans G.sub) ha
  walk_at "go"
  rw [List.length_map]
  refine w_if2 (fun h1 => ?_) (fun h1 => ?_)
  · have h1 : (p : Int) < (ns.length : Int) := of_decide_eq_true h1
    rcases calls_step hcx with ⟨e, _⟩ | ⟨n', k, r, nn, kk, c, t, cs', rfl, e, rfl, hsp, hnr, hk0, hk1, e2⟩
    · have : (ns.drop p).length = 0 := by rw [e]; rfl
      rw [List.length_drop] at this
      omega
    · obtain ⟨i, rfl, hi, hkk⟩ := shape_tab hsp
      have hk : ns[p]? = some (i : Int) := by
        rw [← List.head?_drop, e]
        rfl
      have er : r = ns.drop (p + 1) := by
        rw [← List.tail_drop, e]
        rfl
      have hrl : r.length = ns.length - (p + 1) := by rw [er, List.length_drop]
      obtain ⟨v, hv, ash, rfl, was⟩ := Paired.get hsh hi
      have hvl : vs'.length = c1.length := Paired.len hp
      -- a call is put behind
      have put : ∀ (p2 an ar : Nat) (row : List Int) (S2 H2 : Hp) (v5 : Option V), Grow nobody S' H' S2 H2 → S2 an = some (.lst ((r.take nn).map V.int)) → S2 ar = some (.lst (row.map V.int)) → (c = [(i : Int) :: r.take nn] ∧ row = [] ∨ c = [(i : Int) :: r.take nn, row]) → p < p2 → p2 ≤ ns.length → t = ns.drop p2 →
          (tDrop (tBM K "list" rAppend (tVar 1) (tCons (tNew A.c_Call 3 fo_Call (tCons (tVar 3) (tCons (tVar 6) (tCons (tVar 7) tNil)))) tNil))) { nx := fun σ' H'_1 => ∃ m', m' < ns.length - p ∧ ∃ (p n : Nat) (vs' : List V) (c1_1 c2 : List (List (List Int))) (S' : Hp) (v3 v4 v5 v6 v7 : Option V), σ' = [some (.ref a), some (.ref l), some (.int (p : Nat)), v3, v4, v5, v6, v7] ∧ m' = ns.length - p ∧ p ≤ ns.length ∧ Grow nobody S H S' H'_1 ∧ H'_1 l = some (.lst vs') ∧ S' l = none ∧ Paired (IsCall A S') vs' c1_1 ∧ c1_1.length ≤ p ∧ c1 ++ c :: cs' = c1_1 ++ c2 ∧ PyFlat.calls PyVaflxk.shape n (ns.drop p) = some c2, rt := Q }
            [some (.ref a), some (.ref l), some (.int (p2 : Nat)), some (.int (i : Nat)), some (.ref ash), v5, some (.ref an), some (.ref ar)] H2 := by
        intro p2 an ar row S2 H2 v5 G2 han har hrow hlt hle ht
        have hl2 : H2 l = some (.lst vs') := G2.same _ _ hlst fun z => z.elim
        have sl2 : S2 l = none := G2.out (by rw [hlst]; exact fun z => nomatch z) sl
        walk_at "go"
        refine w_new rfl (fun x d hx hd hne => ?_)
        have G3 := G2.trans (Grow.inst (C := A.c_Call) (fs := fo_Call [.int (i : Nat), .ref an, .ref ar]) G2.sub hx hd hne)
        have hl3 := G3.same _ _ hlst fun z => z.elim
        have sl3 := G3.out (by rw [hlst]; exact fun z => nomatch z) sl
        have up23 := (Grow.inst (r := nobody) (C := A.c_Call) (fs := fo_Call [.int (i : Nat), .ref an, .ref ar]) G2.sub hx hd hne).up
        walk_at "go"
        refine w_app hl3 (by rw [hvl]; exact Nat.lt_of_lt_of_le (show c1.length < 100000 by omega) (by decide)) ?_
        refine ⟨_, ?_, p2, n', vs' ++ [.ref x], c1 ++ [c], cs', _, _, _, _, _, _, rfl, rfl, hle, (G.trans G3).put_new hl (by rw [hl3]; exact fun z => nomatch z) sl3, upd_same, sl3, ?_, ?_, ?_, by rw [← ht]; exact e2⟩
        · omega
        · exact Paired.snoc (Paired.mapP hp fun _ _ z => z.mono G3.up) ⟨x, rfl, d, an, ar, (i : Int), r.take nn, row, upd_same, up23 _ _ han, up23 _ _ har, hrow⟩
        · rw [List.length_append, List.length_singleton]
          omega
        · rw [List.append_assoc]
          rfl
      refine w_turn ?_
      walk_at "go"
      refine w_ixL sa (at_of (j := p) rfl (int_get hk)) ?_
      walk_at "go"
      refine w_ixT hw.at (at_of (j := i) rfl hv) ?_
      walk_at "go"
      refine w_ixT was.at (at_of (j := 0) rfl rfl) ?_
      walk_at "go"
      have eb : (p : Int) + 1 = ((p + 1 : Nat) : Int) := by omega
      have ep : (p : Int) + 1 + (nn : Int) = ((p + 1 + nn : Nat) : Int) := by omega
      refine w_cut sa (fun an han => ?_)
      rw [ep, eb, cut_ints (by omega)]
      have ec : ((ns.take (p + 1 + nn)).drop (p + 1)) = r.take nn := by
        rw [er, List.drop_take]
        congr 1
        omega
      rw [ec]
      have G1 := Grow.laid (r := nobody) (o := .lst ((r.take nn).map V.int)) G.sub han
      have sa1 : SqL K (upd H' an (.lst ((r.take nn).map V.int))) a (ns.map V.int) := SqL.upd sa han
      walk_at "go"
      refine w_obj (show 0 ≤ 1000000 by decide) (fun ar har => ?_)
      have sa2 := SqL.upd (o := .lst []) sa1 har
      walk_at "go"
      refine w_ixT was.at (at_of (j := 1) rfl rfl) ?_
      walk_at "go"
      rcases hkk with rfl | rfl
      · obtain ⟨rfl, rfl⟩ := hk0 rfl
        refine w_if2 (fun z => absurd (show decide ((0 : Nat) = 1) = true from z) (by decide)) (fun _ => ?_)
        walk_at "go1"
        have G2 := G1.trans (Grow.laid (r := nobody) (o := .lst []) G1.sub har)
        refine put (p + 1 + nn) an ar [] _ _ _ G2 ?_ upd_same (Or.inl ⟨rfl, rfl⟩) (by omega) (by omega) ?_
        · exact (Grow.laid (r := nobody) (o := .lst []) G1.sub har).up _ _ upd_same
        · rw [er, List.drop_drop]
      · obtain ⟨mm, s, hd, hm0, hms, rfl, rfl⟩ := hk1 rfl
        refine w_if2 (fun _ => ?_) (fun z => absurd (show decide ((1 : Nat) = 1) = false from z) (by decide))
        obtain ⟨mm, rfl⟩ := Int.eq_ofNat_of_zero_le hm0
        have hms : mm ≤ s.length := hms
        have hd2 : ns.drop (p + 1 + nn) = (mm : Int) :: s := by rw [← hd, er, List.drop_drop]
        have hsl : s.length + 1 = ns.length - (p + 1 + nn) := by
          rw [← List.length_drop, hd2]
          rfl
        have hmm : ns[p + 1 + nn]? = some (mm : Int) := by
          rw [← List.head?_drop, hd2]
          rfl
        have es : s = ns.drop (p + 1 + nn + 1) := by
          rw [← List.tail_drop, hd2]
          rfl
        walk_at "go"
        refine w_ixL sa2 (at_of (j := p + 1 + nn) rfl (int_get hmm)) ?_
        walk_at "go"
        have eb2 : ((p + 1 + nn : Nat) : Int) + 1 = ((p + 1 + nn + 1 : Nat) : Int) := by omega
        have ep2 : ((p + 1 + nn : Nat) : Int) + 1 + (mm : Int) = ((p + 1 + nn + 1 + mm : Nat) : Int) := by omega
        refine w_cut sa2 (fun ar2 har2 => ?_)
        rw [ep2, eb2, cut_ints (by omega)]
        have ec2 : ((ns.take (p + 1 + nn + 1 + mm)).drop (p + 1 + nn + 1)) = s.take mm := by
          rw [es, List.drop_take]
          congr 1
          omega
        rw [ec2]
        have G2 := G1.trans (Grow.made (r := nobody) (o := .lst []) G1.sub har)
        have G3 := G2.trans (Grow.laid (r := nobody) (o := .lst ((s.take mm).map V.int)) G2.sub har2)
        walk_at "go1"
        refine put (p + 1 + nn + 1 + mm) an ar2 (s.take mm) _ _ _ G3 ?_ upd_same (Or.inr rfl) (by omega) (by omega) ?_
        · exact (Grow.laid (r := nobody) (o := .lst ((s.take mm).map V.int)) G2.sub har2).up _ _ upd_same
        · show s.drop mm = _
          rw [es, List.drop_drop]
  · have h1 : ¬ (p : Int) < (ns.length : Int) := of_decide_eq_false h1
    walk_at "go"
    have e : ns.drop p = [] := List.drop_eq_nil_of_le (by omega)
    rw [e] at hcx
    have e2 : c2 = [] := by cases n <;> exact (Option.some.inj hcx).symm
    subst e2
    refine q _ l H' vs' (G.fix hl hlst) upd_same ?_
    rw [List.append_nil]
    exact Paired.mapP hp fun _ _ z => z.mono (same_upd sl)
end
section
variable {K : PySem.W.Frag} {mg : Str → Option Value} {A : Ads}
theorem DeskAt.keep {S H H' : Hp} {dk dx pa : Addr} {s : Vaflxk.State} (D : DeskAt K A S H dk dx pa s) (e : Same H H') : DeskAt K A S H' dk dx pa s := by
  obtain ⟨pr, rc, vs, h1, h2, h3, h4, h5⟩ := D.ex
  exact ⟨⟨pr, rc, vs, e _ _ h1, e _ _ h2, h3, h4, h5⟩, D.hS.trans e, D.nd, D.np, D.ok⟩
theorem DeskAt.up {S H S' H' : Hp} {dk dx pa : Addr} {s : Vaflxk.State} (D : DeskAt K A S H dk dx pa s) (G : Grow nobody S H S' H') : DeskAt K A S' H' dk dx pa s := by
  obtain ⟨pr, rc, vs, h1, h2, h3, h4, h5⟩ := D.ex
  exact ⟨⟨pr, rc, vs, G.Same _ _ h1, G.Same _ _ h2, h3.mono G.up, h4.mono G.up, Paired.mapP h5 fun _ _ z => z.mono G.up⟩, G.sub, G.out (by rw [h1]; exact fun z => nomatch z) D.nd, G.out (by rw [h2]; exact fun z => nomatch z) D.np, D.ok⟩
theorem Grow.any {r : Addr → Prop} {S H S' H' : Hp} (G : Grow nobody S H S' H') : Grow r S H S' H' := G.mono fun _ z => z.elim
/-- an answer of a few numbers, the object as it was -/
theorem answer_new {S H S' H' : Hp} {dk dx pa a : Addr} {s : Vaflxk.State} {k : Vaflxk.Call} {Q : VK} {l : List Int} (D : DeskAt K A S' H' dk dx pa s) (G : Grow nobody S H S' H') (ha : H' a = none) (hs : Vaflxk.step s k = (s, l))
    (q : ∀ S' H' pa' a, Grow (two dk pa) S H S' H' → DeskAt K A S' H' dk dx pa' (Vaflxk.step s k).1 → (pa' = pa ∨ H pa' = none) → H' a = some (.lst (vI (Vaflxk.step s k).2)) → H a = none → a ≠ pa' → Q (.ref a) H') : Q (.ref a) (upd H' a (.lst (vI l))) := by
  obtain ⟨pr, rc, vs, h1, h2, _⟩ := D.ex
  have e := same_upd (o := .lst (vI l)) ha
  refine q S' _ pa a ((G.trans (Grow.made (r := nobody) G.sub ha)).any) ?_ (Or.inl rfl) ?_ (G.stay a ha) (fun z => by rw [z, h2] at ha; cases ha)
  · rw [hs]
    exact D.keep e
  · rw [hs, upd_same]
theorem vI_one (z : Int) : [V.int z] = vI [z] := rfl
theorem numbers_len (p : List UInt8) : (Vaflxk.numbers p).length = p.length := List.length_map ..
/-- e.f of a caught error -/
theorem w_errF {C : Addr} {f : Str} {ea dd : Addr} {fs : List (Str × V)} {v : V} {i : Nat} {σ : L2.St} {H : Hp} {Q : VK} (hi : σ[i]? = some (some (.ref ea))) (hd : H dd = some (.xd fs)) (hl : fs.lookup f = some v) (q : Q v H) : tErrF C f ea (.ref C) (some dd) (tVar i) σ H Q :=
  ⟨.ref ea, hi, rfl, rfl, dd, fs, v, rfl, hd, hl, q⟩
theorem fault_kind {k p : V} : (PySem.OeX.fo_Fault [k, p]).lookup ("kind" : Str) = some k := lk_here
theorem fault_place {k p : V} : (PySem.OeX.fo_Fault [k, p]).lookup ("place" : Str) = some p := (lk_past (by decide +kernel)).trans lk_here
theorem pure_answer_program (T : Fx K mg A) (vs : List V) (H : Hp) (Q : VK) (E : XK) (h : sp_answer_program K A vs H Q E) : t_answer_program K A E { nx := fun _ H' => Q .non H', rt := Q } (start ["desk", "call", "program", "fault"] vs) H := by
  obtain ⟨_, dk, dx, pa, ca, s, k, S, rfl, D, _, hk, _, q⟩ := h
  obtain ⟨fI, XF⟩ := T.ex_Fault
  cases k with
  | program p =>
    obtain ⟨⟨dc, an, ar, kd, hca, han, har⟩, hpz⟩ := hk
    have hc := D.hS _ _ hca
    have hr : S ar = some (.lst (vBs p)) := by rw [har]; unfold vI; rw [numbers_map]
    have sr : SqL K H ar (vBs p) := SqL.of (D.hS _ _ hr)
    obtain ⟨pr, rc, ps, hd, hpa, hpr, hrc, hps⟩ := D.ex
    unfold t_answer_program
    walk_at "go"
    rw [vBs_length]
    refine w_if2 (fun h1 => ?_) (fun h1 => ?_)
    · have h1 : (1000 : Int) < (p.length : Int) := of_decide_eq_true h1
      walk_at "go"
      refine w_obj (show 1 ≤ 1000000 by decide) (fun a ha => ?_)
      refine answer_new (l := [-5]) D (Grow.refl D.hS) ha ?_ q
      show (if Vaflxa.MOST_PROGRAM < p.length then _ else _) = _
      rw [if_pos (show Vaflxa.MOST_PROGRAM < p.length by show 1000 < p.length; omega)]
    · have h1 : ¬ (1000 : Int) < (p.length : Int) := of_decide_eq_false h1
      have hstep : Vaflxk.step s (.program p) = match Vaflxa.read p with
          | .error e => (s, [Vaflxk.nat e.kind, Vaflxk.nat e.place])
          | .ok x => (⟨x, s.record, []⟩, [0]) := by
        show (if Vaflxa.MOST_PROGRAM < p.length then _ else _) = _
        rw [if_neg (show ¬ Vaflxa.MOST_PROGRAM < p.length by show ¬ 1000 < p.length; omega)]
        cases Vaflxa.read p <;> rfl
      refine w_next ?_
      refine w_seq ?_
      show tAsg (tDefS (sp_read_program K A) (WE (wAs K (.ref A.c_Fault) 3 _ _ _)) (tCons (tFld K (tVar 1) "row") tNil)) (gName 2) _ _ H
      refine w_asg ?_
      show tCons (tFld K (tVar 1) "row") tNil _ H fun vs H1 => sp_read_program K A vs H1 _ _
      walk_at "go"
      refine ⟨rfl, ar, p, S, rfl, D.hS, hr, by omega, fun l a S1 H1 hl G1 hp => ?_, fun e d S1 H1 he G1 hdd => ?_⟩
      · rw [hl] at hstep
        have D1 := D.up G1
        have hd1 := G1.Same _ _ hd
        have hc1 := G1.Same _ _ hc
        walk_at "go"
        have n1 : H1 dk ≠ none := by rw [hd1]; exact fun z => nomatch z
        have G2 := (G1.any (r := two dk pa)).trans (Grow.put (o := .ins A.c_Desk dx (fs_Desk (.ref a) (.ref rc) (.ref pa))) G1.sub (Or.inl rfl) n1 D1.nd)
        refine w_obj (show 0 ≤ 1000000 by decide) (fun l' hl' => ?_)
        have G3 := G2.trans (Grow.made (o := .lst []) G2.sub hl')
        have nl : dk ≠ l' := fun z => by rw [← z, upd_same] at hl'; cases hl'
        have hd3 : (upd (upd H1 dk (.ins A.c_Desk dx (fs_Desk (.ref a) (.ref rc) (.ref pa)))) l' (.lst [])) dk = some (.ins A.c_Desk dx (fs_Desk (.ref a) (.ref rc) (.ref pa))) := by rw [upd_ne nl, upd_same]
        walk_at "go"
        have G4 := G3.trans (Grow.put (o := .ins A.c_Desk dx (fs_Desk (.ref a) (.ref rc) (.ref l'))) G3.sub (Or.inl rfl) (by rw [hd3]; exact fun z => nomatch z) D1.nd)
        refine w_obj (show 1 ≤ 1000000 by decide) (fun b hb => ?_)
        have G5 := G4.trans (Grow.made (o := .lst [.int 0]) G4.sub hb)
        have hl4 : (upd (upd (upd H1 dk (.ins A.c_Desk dx (fs_Desk (.ref a) (.ref rc) (.ref pa)))) l' (.lst [])) dk (.ins A.c_Desk dx (fs_Desk (.ref a) (.ref rc) (.ref l')))) l' = some (.lst []) := by rw [upd_ne (Ne.symm nl), upd_same]
        have sl : S1 l' = none := by
          cases e : S1 l' with
          | none => rfl
          | some o =>
            have := G2.sub _ _ e
            rw [hl'] at this
            cases this
        refine q S1 _ l' b G5 ?_ (Or.inr (G2.stay _ hl')) ?_ (G4.stay _ hb) (fun z => by rw [z, hl4] at hb; cases hb)
        · rw [hstep]
          exact ⟨⟨a, rc, [], same_upd hb _ _ upd_same, same_upd hb _ _ hl4, hp, hrc.mono G1.up, .nil⟩, G5.sub, D1.nd, sl, ⟨D.ok.good, (fun _ z => nomatch z), Nat.zero_le _⟩⟩
        · rw [hstep, upd_same]
          rfl
      · rw [he] at hstep
        refine ⟨true, XF.te, fun _ ea hea => ?_, fun z => nomatch z⟩
        refine w_ret ?_
        refine w_lst ?_
        refine w_cons ?_
        refine w_errF rfl hdd fault_kind ?_
        refine w_cons ?_
        refine w_errF rfl hdd fault_place ?_
        walk_at "go"
        refine w_obj (show 2 ≤ 1000000 by decide) (fun a ha => ?_)
        exact answer_new (l := [Vaflxk.nat e.kind, Vaflxk.nat e.place]) (D.up G1) G1 ha hstep q
  | _ => exact hk.elim
theorem texts_len : ∀ (n : Nat) (l : List Int) (ts : List (List UInt8)), VaflxkNeutral.texts? n l = some ts → (∀ t ∈ ts, t.length ≤ l.length) ∧ ts.length ≤ l.length := by
  intro n
  induction n with
  | zero =>
    intro l ts h
    rcases texts_step h with ⟨rfl, rfl⟩ | ⟨m, k, r, t, ts', e, _⟩
    · exact ⟨(fun _ z => nomatch z), Nat.zero_le _⟩
    · cases e
  | succ n ih =>
    intro l ts h
    rcases texts_step h with ⟨rfl, rfl⟩ | ⟨m, k, r, t, ts', e, rfl, rfl, h0, h1, h2, h3⟩
    · exact ⟨(fun _ z => nomatch z), Nat.zero_le _⟩
    · cases e
      obtain ⟨i1, i2⟩ := ih _ _ h3
      have ht : t.length ≤ r.length := by
        have := congrArg List.length (text_is h2)
        rw [List.length_map, vBs_length, List.length_take] at this
        omega
      rw [List.length_drop] at i2
      refine ⟨fun x hx => ?_, ?_⟩
      · rcases List.mem_cons.mp hx with rfl | hx
        · rw [List.length_cons]; omega
        · have := i1 x hx
          rw [List.length_drop] at this
          rw [List.length_cons]
          omega
      · rw [List.length_cons, List.length_cons]
        omega
theorem pure_answer_record (T : Fx K mg A) (vs : List V) (H : Hp) (Q : VK) (E : XK) (h : sp_answer_record K A vs H Q E) : t_answer_record K A E { nx := fun _ H' => Q .non H', rt := Q } (start ["desk", "call", "record"] vs) H := by
  obtain ⟨_, dk, dx, pa, ca, s, k, S, rfl, D, _, hk, _, q⟩ := h
  cases k with
  | record r =>
    obtain ⟨row, ⟨dc, an, ar, kd, hca, han, har⟩, hrz, htx⟩ := hk
    have hc := D.hS _ _ hca
    obtain ⟨pr, rc, ps, hd, hpa, hpr, hrc, hps⟩ := D.ex
    obtain ⟨b1, b2⟩ := texts_len _ _ _ htx
    unfold t_answer_record
    walk_at "go"
    refine ⟨rfl, ar, row, r, S, rfl, D.hS, SqL.of har, hrz, htx, fun S1 b H1 G1 hb => ?_⟩
    walk_at "go"
    refine ⟨rfl, b, r, rfl, hb.mono G1.sub, fun t ht => Nat.le_trans (b1 t ht) hrz, Nat.le_trans b2 hrz, fun H2 e2 => ?_⟩
    have G2 := G1.trans (Grow.same_ (r := nobody) G1.sub e2)
    have D2 := D.up G2
    have hd2 := G2.Same _ _ hd
    walk_at "go"
    have hstep : Vaflxk.step s (.record r) = if Vaflxa.goodRecord r then (⟨s.program, r, []⟩, [0]) else (s, [-1]) := rfl
    refine w_if2 (fun h1 => ?_) (fun h1 => ?_)
    · have h1 : Vaflxa.goodRecord r = false := by simpa using h1
      walk_at "go"
      refine w_obj (show 1 ≤ 1000000 by decide) (fun a ha => ?_)
      refine answer_new (l := [-1]) D2 G2 ha ?_ q
      rw [hstep, h1]
      rfl
    · have h1 : Vaflxa.goodRecord r = true := by simpa using h1
      rw [h1, if_pos rfl] at hstep
      walk_at "go"
      have G3 := (G2.any (r := two dk pa)).trans (Grow.put (o := .ins A.c_Desk dx (fs_Desk (.ref pr) (.ref b) (.ref pa))) G2.sub (Or.inl rfl) (by rw [hd2]; exact fun z => nomatch z) D2.nd)
      refine w_obj (show 0 ≤ 1000000 by decide) (fun l' hl' => ?_)
      have G4 := G3.trans (Grow.made (o := .lst []) G3.sub hl')
      have nl : dk ≠ l' := fun z => by rw [← z, upd_same] at hl'; cases hl'
      have hd4 : (upd (upd H2 dk (.ins A.c_Desk dx (fs_Desk (.ref pr) (.ref b) (.ref pa)))) l' (.lst [])) dk = some (.ins A.c_Desk dx (fs_Desk (.ref pr) (.ref b) (.ref pa))) := by rw [upd_ne nl, upd_same]
      walk_at "go"
      have G5 := G4.trans (Grow.put (o := .ins A.c_Desk dx (fs_Desk (.ref pr) (.ref b) (.ref l'))) G4.sub (Or.inl rfl) (by rw [hd4]; exact fun z => nomatch z) D2.nd)
      refine w_obj (show 1 ≤ 1000000 by decide) (fun a ha => ?_)
      have G6 := G5.trans (Grow.made (o := .lst [.int 0]) G5.sub ha)
      have hl5 : (upd (upd (upd H2 dk (.ins A.c_Desk dx (fs_Desk (.ref pr) (.ref b) (.ref pa)))) l' (.lst [])) dk (.ins A.c_Desk dx (fs_Desk (.ref pr) (.ref b) (.ref l')))) l' = some (.lst []) := by rw [upd_ne (Ne.symm nl), upd_same]
      have sl : S1 l' = none := by
        cases e : S1 l' with
        | none => rfl
        | some o =>
          have := G3.sub _ _ e
          rw [hl'] at this
          cases this
      refine q S1 _ l' a G6 ?_ (Or.inr (G3.stay _ hl')) ?_ (G5.stay _ ha) (fun z => by rw [z, hl5] at ha; cases ha)
      · rw [hstep]
        exact ⟨⟨pr, b, [], same_upd ha _ _ upd_same, same_upd ha _ _ hl5, hpr.mono G2.up, hb, .nil⟩, G6.sub, D2.nd, sl, ⟨h1, (fun _ z => nomatch z), Nat.zero_le _⟩⟩
      · rw [hstep, upd_same]
        rfl
  | _ => exact hk.elim
theorem good_small {r : Vaflxk.Record} (h : Vaflxa.goodRecord r = true) : (∀ t ∈ r, t.length ≤ 40) ∧ r.length ≤ 4 := by
  unfold Vaflxa.goodRecord at h
  rw [Bool.and_eq_true, Bool.and_eq_true, decide_eq_true_eq, decide_eq_true_eq, List.all_eq_true] at h
  refine ⟨fun t ht => ?_, h.1.2⟩
  have := h.2 t ht
  unfold Vaflxa.goodText at this
  rw [Bool.and_eq_true, decide_eq_true_eq] at this
  exact this.1
theorem pure_answer_fields (T : Fx K mg A) (vs : List V) (H : Hp) (Q : VK) (E : XK) (h : sp_answer_fields K A vs H Q E) : t_answer_fields K A E { nx := fun _ H' => Q .non H', rt := Q } (start ["desk", "call"] vs) H := by
  obtain ⟨_, dk, dx, pa, ca, s, k, S, rfl, D, _, rfl, _, q⟩ := h
  obtain ⟨pr, rc, ps, hd, hpa, hpr, hrc, hps⟩ := D.ex
  obtain ⟨g1, g2⟩ := good_small D.ok.good
  unfold t_answer_fields
  walk_at "go"
  refine ⟨rfl, rc, s.record, rfl, hrc.mono D.hS, fun t ht => Nat.le_trans (g1 t ht) (by decide), Nat.le_trans g2 (by decide), fun a ha => ?_⟩
  exact answer_new (l := Vaflxk.nat s.record.length :: s.record.flatMap Vaflxk.counted) D (Grow.refl D.hS) ha rfl q
theorem w_pop {l : Addr} {xs : List V} {y : V} {H : Hp} {Q : VK} (h : H l = some (.lst xs)) (hy : xs[xs.length - 1]? = some y) (q : Q y (upd H l (.lst xs.dropLast))) : rPop (.ref l) [] H Q := ⟨l, xs, y, rfl, rfl, h, hy, q⟩
theorem Paired.dropLast {α β : Type} {F : α → β → Prop} {l : List α} {m : List β} (h : Paired F l m) : Paired F l.dropLast m.dropLast := by
  induction h with
  | nil => exact .nil
  | @cons a b l m r t ih =>
    cases t with
    | nil => exact .nil
    | cons r2 t2 => exact .cons r ih
theorem pure_answer_undo (T : Fx K mg A) (vs : List V) (H : Hp) (Q : VK) (E : XK) (h : sp_answer_undo K A vs H Q E) : t_answer_undo K A E { nx := fun _ H' => Q .non H', rt := Q } (start ["desk", "call"] vs) H := by
  obtain ⟨_, dk, dx, pa, ca, s, k, S, rfl, D, _, rfl, _, q⟩ := h
  obtain ⟨pr, rc, ps, hd, hpa, hpr, hrc, hps⟩ := D.ex
  have sq : SqL K H pa ps := SqL.of hpa
  have hlen : ps.length = s.past.length := Paired.len hps
  unfold t_answer_undo
  walk_at "go"
  refine w_eq rfl ?_
  walk_at "go"
  rw [hlen]
  refine w_if2 (fun h1 => ?_) (fun h1 => ?_)
  · have h1 : (s.past.length : Int) = 0 := V.int.inj (of_decide_eq_true h1)
    have hn : s.past = [] := List.length_eq_zero_iff.mp (by omega)
    walk_at "go"
    refine w_obj (show 1 ≤ 1000000 by decide) (fun a ha => ?_)
    refine answer_new (l := [-7]) D (Grow.refl D.hS) ha ?_ q
    show (match s.past.getLast? with
      | none => (s, [-7])
      | some r => (⟨s.program, r, s.past.dropLast⟩, [Vaflxk.nat (s.past.length - 1)])) = _
    rw [hn]
    rfl
  · have h1 : ¬ V.int (s.past.length : Int) = V.int 0 := of_decide_eq_false h1
    have h1 : s.past.length ≠ 0 := fun z => h1 (by rw [z]; rfl)
    obtain ⟨r, hr⟩ : ∃ r, s.past[s.past.length - 1]? = some r := ⟨_, List.getElem?_eq_getElem (by omega)⟩
    have hg : s.past.getLast? = some r := by rw [List.getLast?_eq_getElem?]; exact hr
    obtain ⟨v, hv, b, rfl, hb⟩ := Paired.get hps hr
    have hstep : Vaflxk.step s .undo = (⟨s.program, r, s.past.dropLast⟩, [Vaflxk.nat (s.past.length - 1)]) := by
      show (match s.past.getLast? with
        | none => (s, [-7])
        | some r => (⟨s.program, r, s.past.dropLast⟩, [Vaflxk.nat (s.past.length - 1)])) = _
      rw [hg]
    walk_at "go"
    refine w_pop hpa (by rw [hlen]; exact hv) ?_
    have nd : dk ≠ pa := fun z => by rw [z, hpa] at hd; cases hd
    have G1 : Grow (two dk pa) S H S (upd H pa (.lst ps.dropLast)) := Grow.put D.hS (Or.inr rfl) (by rw [hpa]; exact fun z => nomatch z) D.np
    have hd1 : (upd H pa (.lst ps.dropLast)) dk = some (.ins A.c_Desk dx (fs_Desk (.ref pr) (.ref rc) (.ref pa))) := by rw [upd_ne nd]; exact hd
    walk_at "go"
    have G2 := G1.trans (Grow.put (o := .ins A.c_Desk dx (fs_Desk (.ref pr) (.ref b) (.ref pa))) G1.sub (Or.inl rfl) (by rw [hd1]; exact fun z => nomatch z) D.nd)
    have hd2 : (upd (upd H pa (.lst ps.dropLast)) dk (.ins A.c_Desk dx (fs_Desk (.ref pr) (.ref b) (.ref pa)))) dk = some (.ins A.c_Desk dx (fs_Desk (.ref pr) (.ref b) (.ref pa))) := upd_same
    have hp2 : (upd (upd H pa (.lst ps.dropLast)) dk (.ins A.c_Desk dx (fs_Desk (.ref pr) (.ref b) (.ref pa)))) pa = some (.lst ps.dropLast) := by rw [upd_ne (Ne.symm nd), upd_same]
    have sq2 : SqL K (upd (upd H pa (.lst ps.dropLast)) dk (.ins A.c_Desk dx (fs_Desk (.ref pr) (.ref b) (.ref pa)))) pa ps.dropLast := SqL.of hp2
    walk_at "go"
    refine w_obj (show 1 ≤ 1000000 by decide) (fun a ha => ?_)
    have G3 := G2.trans (Grow.made (o := .lst [.int (ps.dropLast.length : Nat)]) G2.sub ha)
    refine q S _ pa a G3 ?_ (Or.inl rfl) ?_ (G2.stay _ ha) (fun z => by rw [z, hp2] at ha; cases ha)
    · rw [hstep]
      refine ⟨⟨pr, b, ps.dropLast, same_upd ha _ _ hd2, same_upd ha _ _ hp2, hpr, hb, Paired.dropLast hps⟩, G3.sub, D.nd, D.np, ⟨D.ok.past r (List.mem_of_getElem? hr), fun x hx => D.ok.past x (List.dropLast_subset _ hx), ?_⟩⟩
      have := D.ok.fifty
      show s.past.dropLast.length ≤ 50
      rw [List.length_dropLast]
      omega
    · rw [hstep, upd_same, List.length_dropLast, hlen]
      rfl
end
section
variable {K : PySem.W.Frag} {mg : Str → Option Value} {A : Ads}
theorem run_outs (r : Vaflxa.Record) : ∀ (l : Vaflxa.Program) (i : Nat), Vaflxa.runFrom r i l = match outsFrom r i l with
    | .ok gs => .ok (gs.flatMap fun g => g.1)
    | .error e => .error e
  | [], i => rfl
  | x :: l, i => by
    have ih := run_outs r l (i + 1)
    rw [Vaflxa.runFrom, outsFrom]
    cases Vaflxa.pieceOut r x with
    | none => rfl
    | some t =>
      dsimp only
      rw [ih]
      cases outsFrom r (i + 1) l with
      | error e => rfl
      | ok gs => rfl
theorem run_err {r : Vaflxa.Record} {l : Vaflxa.Program} {i : Nat} (h : outsFrom r 0 l = .error i) : Vaflxa.run r l = .error i := by
  unfold Vaflxa.run
  rw [run_outs, h]
theorem run_ok {r : Vaflxa.Record} {l : Vaflxa.Program} {gs : List G3} (h : outsFrom r 0 l = .ok gs) : Vaflxa.run r l = .ok (gs.flatMap fun g => g.1) := by
  unfold Vaflxa.run
  rw [run_outs, h]
/-- the texts of an output are short -/
theorem cased_len (k : Case) (t : List UInt8) : (Vaflxa.cased k t).length = t.length := by
  cases k with
  | same => rfl
  | up => exact List.length_map ..
  | low => exact List.length_map ..
  | first =>
    cases t with
    | nil => rfl
    | cons c r =>
      show (_ :: r.map Vaflxa.toSmall).length = _
      rw [List.length_cons, List.length_map, List.length_cons]
def shortP : Piece → Prop
  | .const t => t.length ≤ 12
  | .sub _ _ _ _ => True
theorem out_len {r : Vaflxa.Record} {x : Piece} {t : List UInt8} (hr : ∀ t ∈ r, t.length ≤ 1000) (hx : shortP x) (h : Vaflxa.pieceOut r x = some t) : t.length ≤ 1000 := by
  cases x with
  | const u =>
    obtain rfl := Option.some.inj h
    have : u.length ≤ 12 := hx
    omega
  | sub f p q k =>
    have h : (Vaflxa.taken r f p q).map (fun s => Vaflxa.cased k (((r.getD (f - 1) []).take s.2).drop s.1)) = some t := h
    cases e : Vaflxa.taken r f p q with
    | none => rw [e] at h; nomatch h
    | some s =>
      rw [e] at h
      obtain rfl := Option.some.inj h
      rw [cased_len, List.length_drop, List.length_take]
      have hg : (r.getD (f - 1) []).length ≤ 1000 := by
        simp only [List.getD_eq_getElem?_getD]
        cases e2 : r[f - 1]? with
        | none => exact Nat.zero_le _
        | some u => exact hr u (List.mem_of_getElem? e2)
      omega
theorem outs_len {r : Vaflxa.Record} (hr : ∀ t ∈ r, t.length ≤ 1000) : ∀ (l : Vaflxa.Program) (i : Nat) (gs : List G3), (∀ x ∈ l, shortP x) → outsFrom r i l = .ok gs → (∀ g ∈ gs, g.1.length ≤ 1000) ∧ gs.length = l.length
  | [], i, gs, _, h => by
    injection h with h
    subst h
    exact ⟨(fun _ z => nomatch z), rfl⟩
  | x :: l, i, gs, hx, h => by
    rw [outsFrom] at h
    cases e : Vaflxa.pieceOut r x with
    | none => rw [e] at h; nomatch h
    | some t =>
      rw [e] at h
      dsimp only at h
      cases e2 : outsFrom r (i + 1) l with
      | error z => rw [e2] at h; cases h
      | ok gs' =>
        rw [e2] at h
        injection h with h
        subst h
        obtain ⟨i1, i2⟩ := outs_len hr l (i + 1) gs' (fun y hy => hx y (List.mem_cons_of_mem _ hy)) e2
        refine ⟨fun g hg => ?_, by rw [List.length_cons, List.length_cons, i2]⟩
        rcases List.mem_cons.mp hg with rfl | hg2
        · exact out_len hr (hx x List.mem_cons_self) e
        · exact i1 g hg2
theorem prog_short {S : Hp} {pr : Addr} {l : Vaflxa.Program} (h : ProgAt K A S pr l) : (∀ x ∈ l, shortP x) ∧ l.length ≤ 6 := by
  obtain ⟨vs, hz, hp, h6⟩ := h
  refine ⟨?_, h6⟩
  clear h6 hz
  induction hp with
  | nil => exact fun _ z => nomatch z
  | @cons v x vs l q _ ih =>
    intro y hy
    rcases List.mem_cons.mp hy with rfl | hy2
    · obtain ⟨a, _, ha⟩ := q
      cases y with
      | const t =>
        obtain ⟨_, _, _, _, _, h12⟩ := ha
        exact h12
      | sub f p q k => trivial
    · exact ih y hy2
theorem flat_len : ∀ (gs : List G3), (∀ g ∈ gs, g.1.length ≤ 1000) → (gs.flatMap fun g => g.1).length ≤ 1000 * gs.length
  | [], _ => Nat.zero_le _
  | g :: gs, h => by
    have ih := flat_len gs fun x hx => h x (List.mem_cons_of_mem _ hx)
    have := h g List.mem_cons_self
    rw [List.flatMap_cons, List.length_append, List.length_cons]
    omega
theorem Grow.change {r : Addr → Prop} {S H S' H' H'' : Hp} {p : Addr} (G : Grow r S H S' H') (h0 : H p = none) (h1 : H'' p ≠ none) (h2 : S' p = none) (e : ∀ b, b ≠ p → H'' b = H' b) : Grow r S H S' H'' := by
  refine ⟨fun q u z n => ?_, fun q z => ?_, G.up, fun q u z => ?_, G.fresh⟩
  · rw [e q (ne_of_none z h0)]
    exact G.same q u z n
  · by_cases hq : q = p
    · rw [hq] at z
      exact absurd z h1
    · rw [e q hq] at z
      exact G.stay q z
  · rw [e q (ne_of_none z h2)]
    exact G.sub q u z
theorem numbers_app (a b : List UInt8) : Vaflxk.numbers (a ++ b) = Vaflxk.numbers a ++ Vaflxk.numbers b := List.map_append ..
theorem given_ne {S' H' : Hp} {an a : Addr} {o : HO} (h : S' an = none) (q : S' a = some o) : a ≠ an := fun z => by rw [z, h] at q; cases q
theorem pure_answer_output (T : Fx K mg A) (vs : List V) (H : Hp) (Q : VK) (E : XK) (h : sp_answer_output K A vs H Q E) : t_answer_output K A E { nx := fun _ H' => Q .non H', rt := Q } (start ["desk", "call"] vs) H := by
  obtain ⟨_, dk, dx, pa, ca, s, k, S, rfl, D, _, rfl, qE, q⟩ := h
  obtain ⟨pr, rc, ps, hd, hpa, hpr, hrc, hps⟩ := D.ex
  obtain ⟨g1, g2⟩ := good_small D.ok.good
  obtain ⟨s1, s2⟩ := prog_short hpr
  unfold t_answer_output
  walk_at "go"
  refine w_obj (show 1 ≤ 1000000 by decide) (fun an han => ?_)
  have e1 := same_upd (o := .lst [.int 0]) han
  have hd1 := e1 _ _ hd
  have G1 : Grow nobody S H S (upd H an (.lst [.int 0])) := Grow.made D.hS han
  walk_at "go"
  refine ⟨rfl, pr, s.program, rc, s.record, S, rfl, G1.sub, hpr, hrc, fun t ht => Nat.le_trans (g1 t ht) (by decide), Nat.le_trans g2 (by decide), fun i hi H' d e2 hxd => qE i (run_err hi) H' d (e1.trans e2) hxd, fun gs hgs S2 a H2 vs' G2 ha hg => ?_⟩
  have hrun := run_ok hgs
  obtain ⟨l1, l2⟩ := outs_len (fun t ht => Nat.le_trans (g1 t ht) (by decide)) _ _ _ s1 hgs
  have h2 : H2 an = some (.lst [.int 0]) := G2.Same _ _ upd_same
  walk_at "go"
  refine ⟨rfl, a, vs', gs, rfl, SqL.of (G2.sub _ _ ha), Paired.mapP hg fun _ _ z => z.mono G2.sub, l1, by omega, fun p hp => ?_⟩
  have h3 := same_upd (o := .lst (vBs (flat gs))) hp _ _ h2
  have G3 := (G1.trans G2).trans (Grow.made (o := .lst (vBs (flat gs))) G2.sub hp)
  have hfl := flat_len0 gs l1
  refine w_cat h3 upd_same (by rw [vBs_length, List.length_singleton]; omega) (fun b hb => ?_)
  have e9 : [V.int 0] ++ vBs (flat gs) = vI (0 :: Vaflxk.numbers (flat gs)) := by
    unfold vI
    rw [List.map_cons, numbers_map]
    rfl
  rw [e9]
  refine answer_new (D.up G3) G3 hb ?_ (q _ hrun)
  show (s, Vaflxk.withOut s fun o _ => 0 :: Vaflxk.numbers o) = _
  unfold Vaflxk.withOut Vaflxk.outOf
  rw [hrun]
  rfl
end
section
variable {K : PySem.W.Frag} {mg : Str → Option Value} {A : Ads}
/-- a span and what its piece gave -/
def SpIs (i n : Nat) (s : Vaflxk.Span) (g : G3) : Prop := s.piece = i ∧ s.from_ = n ∧ s.to_ = n + g.1.length ∧ s.field = g.2.1 ∧ s.place = g.2.2
inductive SpAre : Nat → Nat → List Vaflxk.Span → List G3 → Prop
  | nil {i n : Nat} : SpAre i n [] []
  | cons {i n : Nat} {s : Vaflxk.Span} {g : G3} {l : List Vaflxk.Span} {m : List G3} : SpIs i n s g → SpAre (i + 1) (n + g.1.length) l m → SpAre i n (s :: l) (g :: m)
theorem spans_are (r : Vaflxa.Record) : ∀ (l : Vaflxa.Program) (i n : Nat) (gs : List G3), outsFrom r i l = .ok gs → ∃ sp, Vaflxk.spansFrom r i n l = some sp ∧ SpAre i n sp gs
  | [], i, n, gs, h => by
    injection h with h
    subst h
    exact ⟨[], rfl, .nil⟩
  | x :: l, i, n, gs, h => by
    rw [outsFrom] at h
    cases e : Vaflxa.pieceOut r x with
    | none => rw [e] at h; nomatch h
    | some t =>
      rw [e] at h
      dsimp only at h
      cases e2 : outsFrom r (i + 1) l with
      | error z => rw [e2] at h; cases h
      | ok gs' =>
        rw [e2] at h
        injection h with h
        subst h
        obtain ⟨sp, h1, h2⟩ := spans_are r l (i + 1) (n + t.length) gs' e2
        rw [Vaflxk.spansFrom, e]
        dsimp only
        rw [h1]
        cases x with
        | const u => exact ⟨_, rfl, .cons ⟨rfl, rfl, rfl, rfl, rfl⟩ h2⟩
        | sub f p q k => exact ⟨_, rfl, .cons ⟨rfl, rfl, rfl, rfl, rfl⟩ h2⟩
theorem at_here {i n j : Nat} {s : Vaflxk.Span} {g : G3} {l : List Vaflxk.Span} (h : SpIs i n s g) (hj : j < g.1.length) : Vaflxk.spanAt (s :: l) (n + j) = some s := by
  obtain ⟨_, h2, h3, _⟩ := h
  unfold Vaflxk.spanAt
  rw [List.find?_cons_of_pos]
  rw [h2, h3, Bool.and_eq_true, decide_eq_true_eq, decide_eq_true_eq]
  omega
theorem at_past {i n j : Nat} {s : Vaflxk.Span} {g : G3} {l : List Vaflxk.Span} (h : SpIs i n s g) (hj : n + g.1.length ≤ j) : Vaflxk.spanAt (s :: l) j = Vaflxk.spanAt l j := by
  obtain ⟨_, h2, h3, _⟩ := h
  unfold Vaflxk.spanAt
  rw [List.find?_cons_of_neg]
  rw [h3, Bool.and_eq_true, decide_eq_true_eq, decide_eq_true_eq]
  omega
def srcL (g : G3) (k : Nat) : List Int := if g.2.1 = 0 then [0, 0] else [(g.2.1 : Int), ((g.2.2 + k : Nat) : Int)]
def srcN (sp : List Vaflxk.Span) (i : Nat) : List Int := [Vaflxk.nat (Vaflxk.sourceOf sp i).1, Vaflxk.nat (Vaflxk.sourceOf sp i).2]
theorem range_add (a b : Nat) : List.range (a + b) = List.range a ++ (List.range b).map (a + ·) := List.range_add ..
theorem src_here {i n k : Nat} {s : Vaflxk.Span} {g : G3} {l : List Vaflxk.Span} (h : SpIs i n s g) (hk : k < g.1.length) : srcN (s :: l) (n + k) = srcL g k := by
  unfold srcN Vaflxk.sourceOf
  rw [at_here h hk]
  dsimp only
  unfold srcL
  obtain ⟨_, h2, _, h4, h5⟩ := h
  rw [h4, h2, h5]
  by_cases hz : g.2.1 = 0
  · rw [if_pos hz, if_pos hz]
    rfl
  · rw [if_neg hz, if_neg hz]
    show [(g.2.1 : Int), ((g.2.2 + (n + k - n) : Nat) : Int)] = _
    rw [Nat.add_sub_cancel_left]
theorem src_past {i n j : Nat} {s : Vaflxk.Span} {g : G3} {l : List Vaflxk.Span} (h : SpIs i n s g) (hj : n + g.1.length ≤ j) : srcN (s :: l) j = srcN l j := by
  unfold srcN Vaflxk.sourceOf
  rw [at_past h hj]
theorem sources_are {i n : Nat} {sp : List Vaflxk.Span} {gs : List G3} (h : SpAre i n sp gs) : (List.range (gs.flatMap fun g => g.1).length).flatMap (fun j => srcN sp (n + j)) = gs.flatMap fun g => (List.range g.1.length).flatMap (srcL g) := by
  induction h with
  | nil => rfl
  | @cons i n s g l m hs _ ih =>
    rw [List.flatMap_cons, List.length_append, range_add, List.flatMap_append, List.flatMap_cons]
    have e1 : (List.range g.1.length).flatMap (fun j => srcN (s :: l) (n + j)) = (List.range g.1.length).flatMap (srcL g) := by
      rw [List.flatMap_def, List.flatMap_def]
      congr 1
      exact List.map_congr_left fun k hk => src_here hs (List.mem_range.mp hk)
    have e2 : ((List.range (m.flatMap fun g => g.1).length).map (g.1.length + ·)).flatMap (fun j => srcN (s :: l) (n + j)) = (List.range (m.flatMap fun g => g.1).length).flatMap (fun j => srcN l (n + g.1.length + j)) := by
      rw [List.flatMap_map]
      rw [List.flatMap_def, List.flatMap_def]
      congr 1
      refine List.map_congr_left fun k hk => ?_
      show srcN (s :: l) (n + (g.1.length + k)) = _
      rw [src_past hs (by omega), Nat.add_assoc]
    rw [e1, e2, ih]
theorem srcs_len : ∀ (l : List Nat) (g : G3), (l.flatMap (srcL g)).length = 2 * l.length
  | [], _ => rfl
  | k :: l, g => by
    rw [List.flatMap_cons, List.length_append, srcs_len l g, List.length_cons]
    have : (srcL g k).length = 2 := by
      unfold srcL
      split <;> rfl
    omega
theorem srcs_len2 : ∀ (gs : List G3), (∀ g ∈ gs, g.1.length ≤ 1000) → (gs.flatMap fun g => (List.range g.1.length).flatMap (srcL g)).length ≤ 2000 * gs.length
  | [], _ => Nat.zero_le _
  | g :: gs, h => by
    have ih := srcs_len2 gs fun x hx => h x (List.mem_cons_of_mem _ hx)
    have := h g List.mem_cons_self
    rw [List.flatMap_cons, List.length_append, List.length_cons, srcs_len, List.length_range]
    omega
theorem pure_answer_sources (T : Fx K mg A) (vs : List V) (H : Hp) (Q : VK) (E : XK) (h : sp_answer_sources K A vs H Q E) : t_answer_sources K A E { nx := fun _ H' => Q .non H', rt := Q } (start ["desk", "call", "answered", "given", "k"] vs) H := by
  obtain ⟨_, dk, dx, pa, ca, s, k, S, rfl, D, _, rfl, qE, q⟩ := h
  obtain ⟨pr, rc, ps, hd, hpa, hpr, hrc, hps⟩ := D.ex
  obtain ⟨g1, g2⟩ := good_small D.ok.good
  obtain ⟨s1, s2⟩ := prog_short hpr
  unfold t_answer_sources
  walk_at "go"
  refine w_obj (show 1 ≤ 1000000 by decide) (fun an han => ?_)
  have e1 := same_upd (o := .lst [.int 0]) han
  have hd1 := e1 _ _ hd
  have G1 : Grow nobody S H S (upd H an (.lst [.int 0])) := Grow.made D.hS han
  walk_at "go"
  refine ⟨rfl, pr, s.program, rc, s.record, S, rfl, G1.sub, hpr, hrc, fun t ht => Nat.le_trans (g1 t ht) (by decide), Nat.le_trans g2 (by decide), fun i hi H' d e2 hxd => qE i (run_err hi) H' d (e1.trans e2) hxd, fun gs hgs S2 a H2 vs' G2 ha hg => ?_⟩
  have hrun := run_ok hgs
  obtain ⟨l1, l2⟩ := outs_len (fun t ht => Nat.le_trans (g1 t ht) (by decide)) _ _ _ s1 hgs
  have h2 : H2 an = some (.lst [.int 0]) := G2.Same _ _ upd_same
  have s2n : S2 an = none := G2.out (by rw [upd_same]; exact fun z => nomatch z) (D.hS.free han)
  have hlen : vs'.length = gs.length := Paired.len hg
  have npa : an ≠ pa := fun z => by rw [z, hpa] at han; cases han
  have G12 := G1.trans G2
  -- between the turns: what was tracked behind all_given stands, but the answer
  refine w_isforl (xs := vs') (fun i σ H3 => ∃ v w, σ = [some (.ref dk), some (.ref ca), some (.ref an), v, w] ∧ H3 an = some (.lst (vI (0 :: (gs.take i).flatMap fun g => (List.range g.1.length).flatMap (srcL g)))) ∧ Grow nobody S H S2 H3) (SqL.of (G2.sub _ _ ha)) ⟨none, none, rfl, h2, G12⟩
    (fun i σ H3 _ ⟨v, w, _, _, G3⟩ => SqL.of (G3.sub _ _ ha)) ?_ ?_
  · rintro i x σ H3 hi ⟨v, w, rfl, h3, G3⟩
    obtain ⟨g, hgi, b, rfl, hgv⟩ := Paired.get' hg hi
    have hgl : g.1.length ≤ 1000 := l1 g (mem_le hgi)
    have hil : i < gs.length := (List.getElem?_eq_some_iff.mp hgi).1
    have hfl := srcs_len2 (gs.take i) fun y hy => l1 y (List.mem_of_mem_take hy)
    rw [List.length_take, Nat.min_eq_left (by omega)] at hfl
    obtain ⟨dg, at_, hb, hat⟩ := hgv.mono G3.sub
    have sat : SqL K H3 at_ (vBs g.1) := SqL.of hat
    walk_at "go"
    rw [vBs_length]
    refine w_isforr (n := g.1.length) rfl (by omega) (fun j σ H4 => ∃ w, σ = [some (.ref dk), some (.ref ca), some (.ref an), some (.ref b), w] ∧ H4 an = some (.lst (vI (0 :: ((gs.take i).flatMap (fun g => (List.range g.1.length).flatMap (srcL g)) ++ (List.range j).flatMap (srcL g))))) ∧ Grow nobody S H S2 H4) ⟨w, rfl, ?_, G3⟩ ?_ ?_
    · rw [h3]
      show _ = some (HO.lst (vI (0 :: (_ ++ []))))
      rw [List.append_nil]
    · rintro j σ H4 hj ⟨w', rfl, h4, G4⟩
      have hgv4 := hgv.mono G4.sub
      obtain ⟨dg4, at4, hb4, hat4⟩ := hgv4
      walk_at "go"
      refine ⟨rfl, b, g, j, rfl, ⟨dg4, at4, hb4, hat4⟩, fun p hp => ?_⟩
      have npn : an ≠ p := fun z => by rw [← z, h4] at hp; cases hp
      have h5 : (upd H4 p (.lst (if g.2.1 = 0 then [.int 0, .int 0] else [.int (g.2.1 : Nat), .int ((g.2.2 + j : Nat) : Int)]))) an = some (.lst (vI (0 :: ((gs.take i).flatMap (fun g => (List.range g.1.length).flatMap (srcL g)) ++ (List.range j).flatMap (srcL g))))) := by rw [upd_ne npn]; exact h4
      have esl : (if g.2.1 = 0 then [V.int 0, .int 0] else [.int (g.2.1 : Nat), .int ((g.2.2 + j : Nat) : Int)]) = vI (srcL g j) := by
        unfold srcL
        split <;> rfl
      have G5 := G4.trans (Grow.made (r := nobody) (o := .lst (if g.2.1 = 0 then [.int 0, .int 0] else [.int (g.2.1 : Nat), .int ((g.2.2 + j : Nat) : Int)])) G4.sub hp)
      have hl4 := srcs_len (List.range j) g
      rw [List.length_range] at hl4
      walk_at "go"
      refine w_ext h5 upd_same ?_ ?_
      · rw [esl]
        unfold vI
        rw [List.length_map, List.length_map, List.length_cons, List.length_append, hl4]
        have : (srcL g j).length = 2 := by
          unfold srcL
          split <;> rfl
        rw [this]
        exact Nat.le_trans (show _ ≤ 100000 by omega) (by decide)
      · refine ⟨_, rfl, ?_, ?_⟩
        · rw [upd_same, esl, List.range_succ, List.flatMap_append, ← List.append_assoc]
          unfold vI
          rw [List.map_cons, List.map_cons, List.map_append, List.map_append, List.map_append, List.flatMap_singleton]
          rfl
        · exact G5.change han (by rw [upd_same]; exact fun z => nomatch z) s2n fun c hc => upd_ne hc
    · rintro σ H4 ⟨w', rfl, h4, G4⟩
      refine ⟨_, _, rfl, ?_, G4⟩
      rw [h4, List.take_add_one, hgi, List.flatMap_append]
      congr 3
      have e9 : ((some g).toList.flatMap fun g => (List.range g.1.length).flatMap (srcL g)) = (List.range g.1.length).flatMap (srcL g) := List.flatMap_singleton ..
      rw [e9]
  · rintro σ H3 ⟨v, w, rfl, h3, G3⟩
    rw [hlen, List.take_length] at h3
    walk_at "go"
    obtain ⟨sp, hsp, hare⟩ := spans_are s.record s.program 0 0 gs hgs
    have hstep : Vaflxk.step s .sources = (s, 0 :: gs.flatMap fun g => (List.range g.1.length).flatMap (srcL g)) := by
      show (s, Vaflxk.withOut s fun o l => 0 :: (List.range o.length).flatMap fun i => let x := Vaflxk.sourceOf l i; [Vaflxk.nat x.1, Vaflxk.nat x.2]) = _
      unfold Vaflxk.withOut Vaflxk.outOf
      rw [hrun]
      dsimp only
      unfold Vaflxk.spansOf
      rw [hsp]
      have := sources_are hare
      simp only [Nat.zero_add] at this
      rw [← this]
      rfl
    refine q _ hrun S2 H3 pa an (G3.any) ?_ (Or.inl rfl) ?_ han npa
    · rw [hstep]
      exact D.up G3
    · rw [hstep]
      exact h3
/-- the piece that has a byte -/
def pieceOf : List G3 → Nat → Nat → Option (Nat × Nat)
  | [], _, _ => none
  | g :: gs, i, k => if k < g.1.length then some (i, k) else pieceOf gs (i + 1) (k - g.1.length)
theorem piece_are {i n : Nat} {sp : List Vaflxk.Span} {gs : List G3} (h : SpAre i n sp gs) : ∀ k, (match Vaflxk.spanAt sp (n + k) with
    | some s => some (s.piece, n + k - s.from_)
    | none => none) = if k < (gs.flatMap fun g => g.1).length then pieceOf gs i k else none := by
  induction h with
  | nil => intro k; rfl
  | @cons i n s g l m hs _ ih =>
    intro k
    rw [List.flatMap_cons, List.length_append]
    by_cases hk : k < g.1.length
    · rw [at_here hs hk, if_pos (by omega)]
      rw [pieceOf, if_pos hk]
      obtain ⟨h1, h2, _⟩ := hs
      dsimp only
      rw [h1, h2, Nat.add_sub_cancel_left]
    · rw [at_past hs (by omega)]
      have e : n + k = n + g.1.length + (k - g.1.length) := by omega
      rw [e, ih (k - g.1.length)]
      rw [pieceOf, if_neg hk]
      by_cases h2 : k < g.1.length + (m.flatMap fun g => g.1).length
      · rw [if_pos h2, if_pos (by omega)]
      · rw [if_neg h2, if_neg (by omega)]

theorem total_app (a b : List G3) : ((a ++ b).flatMap fun g => g.1).length = (a.flatMap fun g => g.1).length + (b.flatMap fun g => g.1).length := by
  rw [List.flatMap_append, List.length_append]
theorem pure_answer_piece (T : Fx K mg A) (vs : List V) (H : Hp) (Q : VK) (E : XK) (h : sp_answer_piece K A vs H Q E) : t_answer_piece K A E { nx := fun _ H' => Q .non H', rt := Q } (start ["desk", "call", "before", "givens", "number", "given"] vs) H := by
  obtain ⟨_, dk, dx, pa, ca, s, c, S, rfl, D, _, hk, qE, q⟩ := h
  cases c with
  | piece i =>
    obtain ⟨row, dc, an, ar, kd, hca, han, har⟩ := hk
    have hc := D.hS _ _ hca
    have sn : SqL K H an (vI [i]) := SqL.of (D.hS _ _ han)
    obtain ⟨pr, rc, ps, hd, hpa, hpr, hrc, hps⟩ := D.ex
    obtain ⟨g1, g2⟩ := good_small D.ok.good
    obtain ⟨s1, s2⟩ := prog_short hpr
    unfold t_answer_piece
    walk_at "go"
    refine w_ixL sn (at_of (j := 0) rfl rfl) ?_
    walk_at "go"
    refine ⟨rfl, pr, s.program, rc, s.record, S, rfl, D.hS, hpr, hrc, fun t ht => Nat.le_trans (g1 t ht) (by decide), Nat.le_trans g2 (by decide), fun i hi H' d e2 hxd => qE i (run_err hi) H' d e2 hxd, fun gs hgs S2 a H2 vs' G2 ha hg => ?_⟩
    have hrun := run_ok hgs
    have D2 := D.up G2
    obtain ⟨l1, l2⟩ := outs_len (fun t ht => Nat.le_trans (g1 t ht) (by decide)) _ _ _ s1 hgs
    have hlen : vs'.length = gs.length := Paired.len hg
    obtain ⟨sp, hsp, hare⟩ := spans_are s.record s.program 0 0 gs hgs
    have hpc := piece_are hare
    simp only [Nat.zero_add] at hpc
    have hstep : Vaflxk.step s (.piece i) = (s, if i < 0 ∨ (((gs.flatMap fun g => g.1).length : Nat) : Int) ≤ i then [-2] else match pieceOf gs 0 i.toNat with
        | some (m, b) => [0, (m : Int), (b : Int)]
        | none => [-2]) := by
      show (s, Vaflxk.withOut s fun o l => Vaflxk.pieceAnswer l i o) = _
      unfold Vaflxk.withOut Vaflxk.outOf
      rw [hrun]
      dsimp only
      unfold Vaflxk.spansOf
      rw [hsp]
      congr 1
      show Vaflxk.pieceAnswer sp i _ = _
      unfold Vaflxk.pieceAnswer Vaflxk.nat
      by_cases hi : i < 0 ∨ (((gs.flatMap fun g => g.1).length : Nat) : Int) ≤ i
      · rw [if_pos hi, if_pos hi]
      · rw [if_neg hi, if_neg hi]
        have h2 := hpc i.toNat
        rw [if_pos (by omega)] at h2
        cases e : Vaflxk.spanAt sp i.toNat with
        | none =>
          rw [e] at h2
          rw [← h2]
        | some s' =>
          rw [e] at h2
          rw [← h2]
          have hfr : s'.from_ ≤ i.toNat := by
            unfold Vaflxk.spanAt at e
            have := List.find?_some e
            rw [Bool.and_eq_true, decide_eq_true_eq, decide_eq_true_eq] at this
            exact this.1
          show [0, (s'.piece : Int), i - (s'.from_ : Int)] = [0, (s'.piece : Int), ((i.toNat - s'.from_ : Nat) : Int)]
          congr 3
          omega
    walk_at "go"
    refine w_if2 (fun h1 => ?_) (fun h1 => ?_)
    · have h1 : i < 0 := of_decide_eq_true h1
      walk_at "go"
      refine w_obj (show 1 ≤ 1000000 by decide) (fun b hb => ?_)
      refine answer_new (l := [-2]) D2 G2 hb ?_ (q _ hrun)
      rw [hstep, if_pos (Or.inl h1)]
    · have h1 : ¬ i < 0 := of_decide_eq_false h1
      obtain ⟨n, rfl⟩ := Int.eq_ofNat_of_zero_le (show 0 ≤ i by omega)
      walk_at "go"
      refine w_isfore (xs := vs') (fun j σ H3 => ∃ (k : Nat) (v4 v5 : Option V), σ = [some (.ref dk), some (.ref ca), some (.int (k : Nat)), some (.ref a), v4, v5] ∧ Grow nobody S H S2 H3 ∧ ((gs.take j).flatMap fun g => g.1).length + k = n ∧ pieceOf gs 0 n = pieceOf (gs.drop j) j k) (SqL.of (G2.sub _ _ ha))
        ⟨n, none, none, rfl, G2, by rw [List.take_zero]; exact Nat.zero_add n, by rw [List.drop_zero]⟩ (fun j σ H3 _ ⟨k, v4, v5, _, G3, _⟩ => SqL.of (G3.sub _ _ ha)) ?_ ?_
      · rintro j x W σ H3 hx hW ⟨k, v4, v5, rfl, G3, hn, hp⟩
        obtain ⟨g, hgj, b, rfl, hgv⟩ := Paired.get' hg hx
        have G4 := G3.trans (Grow.made (r := nobody) (o := .tup [.int (j : Nat), .ref b]) G3.sub hW)
        rw [drop_get hgj, pieceOf] at hp
        refine w_gtup2 (SqT.of upd_same) ?_
        obtain ⟨dg, at_, hb, hat⟩ := hgv.mono G4.sub
        have sat : SqL K (upd H3 W (.tup [.int (j : Nat), .ref b])) at_ (vBs g.1) := SqL.of hat
        walk_at "go"
        rw [vBs_length]
        refine w_if2 (fun h2 => ?_) (fun h2 => ?_)
        · have h2 : (k : Int) < (g.1.length : Int) := of_decide_eq_true h2
          rw [if_pos (by omega)] at hp
          walk_at "go"
          refine w_obj (show 3 ≤ 1000000 by decide) (fun z hz => ?_)
          refine answer_new (l := [0, (j : Int), (k : Int)]) (D.up G4) G4 hz ?_ (q _ hrun)
          rw [hstep]
          have hlt : n < (gs.flatMap fun g => g.1).length := by
            have e5 : gs = gs.take j ++ g :: gs.drop (j + 1) := by rw [← drop_get hgj, List.take_append_drop]
            rw [e5, total_app, List.flatMap_cons, List.length_append]
            omega
          rw [if_neg (by omega), show ((n : Int)).toNat = n from rfl, hp]
        · have h2 : ¬ (k : Int) < (g.1.length : Int) := of_decide_eq_false h2
          rw [if_neg (by omega)] at hp
          refine w_next ?_
          refine ⟨_, rfl, ?_⟩
          walk_at "go"
          rw [vBs_length]
          refine ⟨_, _, rfl, rfl, k - g.1.length, some (.int (j : Nat)), some (.ref b), ?_, G4, ?_, hp⟩
          · have e6 : (k : Int) - (g.1.length : Int) = ((k - g.1.length : Nat) : Int) := by omega
            rw [← e6]
            rfl
          · have e7 : ((gs.take (j + 1)).flatMap fun g => g.1).length = ((gs.take j).flatMap fun g => g.1).length + g.1.length := by
              rw [List.take_add_one, hgj, total_app]
              congr 1
              show ([g].flatMap fun g => g.1).length = _
              rw [List.flatMap_singleton]
            rw [e7]
            omega
      · rintro σ H3 ⟨k, v4, v5, rfl, G3, hn, hp⟩
        rw [hlen, List.take_length] at hn
        walk_at "go"
        refine w_obj (show 1 ≤ 1000000 by decide) (fun z hz => ?_)
        refine answer_new (l := [-2]) (D.up G3) G3 hz ?_ (q _ hrun)
        rw [hstep, if_pos (Or.inr (by omega))]
  | _ => exact hk.elim
end
section
variable {K : PySem.W.Frag} {mg : Str → Option Value} {A : Ads}
theorem up_ne {H : Hp} {p a : Addr} {o u : HO} (h : H a = some u) (n : a ≠ p) : upd H p o a = some u := by
  rw [upd_ne n]
  exact h
theorem pure_Desk_init (T : Fx K mg A) (vs : List V) (H : Hp) (Q : VK) (E : XK) (h : sp_Desk_init K A vs H Q E) : t_Desk_init K A E { nx := fun _ H' => Q .non H', rt := Q } (start ["self"] vs) H := by
  obtain ⟨_, p, dx, rfl, hp, q⟩ := h
  unfold t_Desk_init
  refine w_seq (w_sfld (w_lst (w_nil (w_obj (by decide) (fun pr hpr => ?_)))))
  have n1 : p ≠ pr := ne_of_none hp hpr
  refine w_var rfl (w_put (fs' := [("program", .ref pr)]) (up_ne hp n1) T.cl_Desk T.n_Desk_program (by show 0 < 1000; decide) rfl ?_)
  refine w_seq (w_sfld (w_lst (w_cons (w_lst (w_nil (w_obj (by decide) (fun r0 hr0 => ?_)))))))
  have a2 : (upd (upd H pr (.lst [])) p (.ins A.c_Desk dx [("program", .ref pr)])) p = some (.ins A.c_Desk dx [("program", .ref pr)]) := upd_same
  have b2 : (upd (upd H pr (.lst [])) p (.ins A.c_Desk dx [("program", .ref pr)])) pr = some (.lst []) := up_ne upd_same (Ne.symm n1)
  have k2 : ∀ b o, H b = some o → b ≠ p → (upd (upd H pr (.lst [])) p (.ins A.c_Desk dx [("program", .ref pr)])) b = some o := fun b o e hb => up_ne (same_upd hpr _ _ e) hb
  generalize (upd (upd H pr (.lst [])) p (.ins A.c_Desk dx [("program", .ref pr)])) = H2 at a2 b2 k2 hr0 ⊢
  have a3 := same_upd (o := .lst []) hr0 _ _ a2
  have b3 := same_upd (o := .lst []) hr0 _ _ b2
  have c3 : (upd H2 r0 (.lst [])) r0 = some (.lst []) := upd_same
  have k3 : ∀ b o, H b = some o → b ≠ p → (upd H2 r0 (.lst [])) b = some o := fun b o e hb => same_upd hr0 _ _ (k2 b o e hb)
  generalize upd H2 r0 (.lst []) = H3 at a3 b3 c3 k3 ⊢
  refine w_nil (w_obj (show 1 ≤ 1000000 by decide) (fun rc hrc => ?_))
  have a4 := same_upd (o := .lst [.ref r0]) hrc _ _ a3
  have b4 := same_upd (o := .lst [.ref r0]) hrc _ _ b3
  have c4 := same_upd (o := .lst [.ref r0]) hrc _ _ c3
  have d4 : (upd H3 rc (.lst [.ref r0])) rc = some (.lst [.ref r0]) := upd_same
  have k4 : ∀ b o, H b = some o → b ≠ p → (upd H3 rc (.lst [.ref r0])) b = some o := fun b o e hb => same_upd hrc _ _ (k3 b o e hb)
  have n3 : p ≠ r0 := fun z => by rw [← z, a2] at hr0; cases hr0
  have n4 : p ≠ rc := fun z => by rw [← z, a3] at hrc; cases hrc
  generalize upd H3 rc (.lst [.ref r0]) = H4 at a4 b4 c4 d4 k4 ⊢
  refine w_var rfl (w_put (fs' := [("program", .ref pr), ("record", .ref rc)]) a4 T.cl_Desk T.n_Desk_record (by show 1 < 1000; decide) ((pf_past (by decide +kernel)).trans rfl) ?_)
  have a5 : (upd H4 p (.ins A.c_Desk dx [("program", .ref pr), ("record", .ref rc)])) p = some (.ins A.c_Desk dx [("program", .ref pr), ("record", .ref rc)]) := upd_same
  have b5 : (upd H4 p (.ins A.c_Desk dx [("program", .ref pr), ("record", .ref rc)])) pr = some (.lst []) := up_ne b4 (Ne.symm n1)
  have c5 : (upd H4 p (.ins A.c_Desk dx [("program", .ref pr), ("record", .ref rc)])) r0 = some (.lst []) := up_ne c4 (Ne.symm n3)
  have d5 : (upd H4 p (.ins A.c_Desk dx [("program", .ref pr), ("record", .ref rc)])) rc = some (.lst [.ref r0]) := up_ne d4 (Ne.symm n4)
  have k5 : ∀ b o, H b = some o → b ≠ p → (upd H4 p (.ins A.c_Desk dx [("program", .ref pr), ("record", .ref rc)])) b = some o := fun b o e hb => up_ne (k4 b o e hb) hb
  generalize (upd H4 p (.ins A.c_Desk dx [("program", .ref pr), ("record", .ref rc)])) = H5 at a5 b5 c5 d5 k5 ⊢
  refine w_sfld (w_lst (w_nil (w_obj (by decide) (fun pa hpa => ?_))))
  have n5 : p ≠ pa := ne_of_none a5 hpa
  have a6 := same_upd (o := .lst []) hpa _ _ a5
  refine w_var rfl (w_put (fs' := fs_Desk (.ref pr) (.ref rc) (.ref pa)) a6 T.cl_Desk T.n_Desk_past (by show 2 < 1000; decide) (by unfold fs_Desk; exact (pf_past (by decide +kernel)).trans (cons_eq ((pf_past (by decide +kernel)).trans rfl))) ?_)
  have free : ∀ {c : Addr} {o : HO}, H2 c = none → c ≠ p → H c = none := by
    intro c o z hz
    cases e : H c with
    | none => rfl
    | some u =>
      have := k2 c u e hz
      rw [z] at this
      cases this
  have frc : H rc = none := by
    cases e : H rc with
    | none => rfl
    | some u =>
      have := k3 rc u e (Ne.symm n4)
      rw [hrc] at this
      cases this
  have fpa : H pa = none := by
    cases e : H pa with
    | none => rfl
    | some u =>
      have := k5 pa u e (Ne.symm n5)
      rw [hpa] at this
      cases this
  have m1 : pa ≠ pr := fun z => by rw [z, b5] at hpa; cases hpa
  have m2 : pa ≠ rc := fun z => by rw [z, d5] at hpa; cases hpa
  have m3 : pa ≠ r0 := fun z => by rw [z, c5] at hpa; cases hpa
  refine q _ pr rc r0 pa upd_same hpr frc (free (o := .lst []) hr0 (Ne.symm n3)) fpa ?_ ?_ ?_ ?_ m1 m2 m3 fun b o e hb => ?_
  · exact up_ne (same_upd hpa _ _ b5) (Ne.symm n1)
  · exact up_ne (same_upd hpa _ _ d5) (Ne.symm n4)
  · exact up_ne (same_upd hpa _ _ c5) (Ne.symm n3)
  · exact up_ne upd_same (Ne.symm n5)
  · exact up_ne (same_upd hpa _ _ (k5 b o e hb)) hb
/-! ### the calls, one after another -/
def stAfter : Vaflxk.State → List (List (List Int)) → Vaflxk.State
  | s, [] => s
  | s, c :: r => stAfter (VaflxkNeutral.step s c).1 r
theorem st_snoc : ∀ (l : List (List (List Int))) (s : Vaflxk.State) (c : List (List Int)), stAfter s (l ++ [c]) = (VaflxkNeutral.step (stAfter s l) c).1
  | [], _, _ => rfl
  | d :: l, s, c => st_snoc l (VaflxkNeutral.step s d).1 c
theorem played_snoc : ∀ (l : List (List (List Int))) (s : Vaflxk.State) (c : List (List Int)), PyFlat.played VaflxkNeutral.step s (l ++ [c]) = PyFlat.played VaflxkNeutral.step s l ++ [(VaflxkNeutral.step (stAfter s l) c).2]
  | [], _, _ => rfl
  | d :: l, s, c => by
    show _ :: PyFlat.played VaflxkNeutral.step (VaflxkNeutral.step s d).1 (l ++ [c]) = _ :: _
    rw [played_snoc l]
    rfl
theorem told_snoc (l : List (List Int)) (a : List Int) : PyFlat.told (l ++ [a]) = PyFlat.told l ++ ((a.length : Int) :: a) := by
  unfold PyFlat.told
  rw [List.flatMap_append, List.flatMap_singleton]
theorem told_app (l m : List (List Int)) : PyFlat.told (l ++ m) = PyFlat.told l ++ PyFlat.told m := by
  unfold PyFlat.told
  exact List.flatMap_append
theorem played_app : ∀ (l m : List (List (List Int))) (s : Vaflxk.State), PyFlat.played VaflxkNeutral.step s (l ++ m) = PyFlat.played VaflxkNeutral.step s l ++ PyFlat.played VaflxkNeutral.step (stAfter s l) m
  | [], _, _ => rfl
  | d :: l, m, s => by
    show _ :: PyFlat.played VaflxkNeutral.step (VaflxkNeutral.step s d).1 (l ++ m) = _ :: _
    rw [played_app l]
    rfl
theorem whole_id (c : List (List Int)) : PyVaflxk.whole c = c := by
  unfold PyVaflxk.whole
  split <;> rfl
theorem DeskAt.other {S H : Hp} {dk dx pa p : Addr} {o : HO} {s : Vaflxk.State} (D : DeskAt K A S H dk dx pa s) (h1 : p ≠ dk) (h2 : p ≠ pa) (h3 : S p = none) : DeskAt K A S (upd H p o) dk dx pa s := by
  obtain ⟨pr, rc, vs, a1, a2, r⟩ := D.ex
  exact ⟨⟨pr, rc, vs, up_ne a1 (Ne.symm h1), up_ne a2 (Ne.symm h2), r⟩, fun b u e => up_ne (D.hS b u e) (ne_of_none e h3), D.nd, D.np, D.ok⟩
theorem w_tmake {C : Addr} {sp : Sp} {σ : L2.St} {H : Hp} {Q : VK} (h : ∀ x dx, H x = none → H dx = none → dx ≠ x → sp [.ref x] (upd (upd H dx (.own x)) x (.ins C dx [])) (fun v H2 => v = .non ∧ Q (.ref x) H2) E0) : tMake C sp [] E0 tNil σ H Q := h
theorem pure_answers (T : Fx K mg A) (vs : List V) (H : Hp) (Q : VK) (E : XK) (h : sp_answers K A vs H Q E) : t_answers K A E { nx := fun _ H' => Q .non H', rt := Q } (start ["calls", "desk", "found", "call", "answered"] vs) H := by
  obtain ⟨_, a, l, rfl, ha, hz, hask, q⟩ := h
  unfold PyVaflxk.answers_asked at hask
  cases ec : PyFlat.calls PyVaflxk.shape l.length l with
  | none => rw [ec] at hask; cases hask
  | some cs =>
    rw [ec] at hask
    dsimp only at hask
    rw [Bool.and_eq_true, Bool.and_eq_true, Bool.and_eq_true, Bool.and_eq_true] at hask
    obtain ⟨⟨⟨⟨_, _⟩, hbnd⟩, hsk⟩, hsh⟩ := hask
    have ew : cs.map PyVaflxk.whole = cs := by
      have : PyVaflxk.whole = id := funext whole_id
      rw [this, List.map_id]
    rw [ew] at hsk
    have hans : PyVaflxk.answers l = PyFlat.told (PyFlat.played VaflxkNeutral.step VaflxkNeutral.start cs) := by
      unfold PyVaflxk.answers PyVaflxk.calls
      rw [ec]
      dsimp only
      rw [ew]
    rw [hans] at q hsh
    have hsh : (PyFlat.told (PyFlat.played VaflxkNeutral.step VaflxkNeutral.start cs)).length ≤ 10000000 := of_decide_eq_true hsh
    unfold VaflxkNeutral.asked at hsk
    rw [Bool.and_eq_true, Bool.and_eq_true] at hsk
    have hc : ∀ c ∈ cs, askedC c := fun c hm => ⟨List.all_eq_true.mp hsk.1.1 c hm, List.all_eq_true.mp hsk.1.2 c hm, List.all_eq_true.mp hbnd c hm⟩
    unfold t_answers
    refine w_seq (w_asg (w_tmake fun dk dx hdk hdx hne => ?_))
    have g1 : Same H (upd H dx (.own dk)) := same_upd hdx
    have g2 : (upd H dx (.own dk)) dk = none := by rw [upd_ne (Ne.symm hne)]; exact hdk
    refine ⟨rfl, dk, dx, rfl, upd_same, fun H1 pr rc r0 pa hd1 npr nrc nr0 npa hpr hrc hr0 hpa mpr mrc mr0 keep => ⟨rfl, ?_⟩⟩
    have e1 : Same H H1 := fun b o e => keep b o (same_upd g2 _ _ (g1 _ _ e)) (ne_of_none e hdk)
    have back : ∀ {c : Addr}, (upd (upd H dx (.own dk)) dk (.ins A.c_Desk dx [])) c = none → H c = none := fun {c} z => g1.free ((same_upd g2).free z)
    have kpa : pa ≠ dk := fun z => by rw [z, upd_same] at npa; cases npa
    have kpr : pr ≠ dk := fun z => by rw [z, upd_same] at npr; cases npr
    have krc : rc ≠ dk := fun z => by rw [z, upd_same] at nrc; cases nrc
    have kr0 : r0 ≠ dk := fun z => by rw [z, upd_same] at nr0; cases nr0
    -- what never changes, at first: what was there, the empty program, the record of one empty field
    have G1 : Grow nobody H H H H1 := Grow.same_ (L2.Same.refl H) e1
    have G2 := G1.fix (back npr) hpr
    have G3 := G2.fix (back nr0) hr0
    have G4 := G3.fix (back nrc) hrc
    have nS : ∀ {c : Addr}, H c = none → c ≠ pr → c ≠ r0 → c ≠ rc → (upd (upd (upd H pr (.lst [])) r0 (.lst [])) rc (.lst [.ref r0])) c = none := fun {c} z a1 a2 a3 => by rw [upd_ne a3, upd_ne a2, upd_ne a1]; exact z
    have sdk := nS hdk (Ne.symm kpr) (Ne.symm kr0) (Ne.symm krc)
    have spa := nS (back npa) mpr mr0 mrc
    generalize hS4 : (upd (upd (upd H pr (.lst [])) r0 (.lst [])) rc (.lst [.ref r0])) = S4 at G4 sdk spa
    have s4pr : S4 pr = some (.lst []) := by
      rw [← hS4]
      by_cases h1 : pr = rc
      · rw [h1, hrc] at hpr; cases hpr
      · rw [upd_ne h1]
        by_cases h2 : pr = r0
        · rw [h2, upd_same]
        · rw [upd_ne h2, upd_same]
    have s4r0 : S4 r0 = some (.lst []) := by
      rw [← hS4]
      by_cases h1 : r0 = rc
      · rw [h1, hrc] at hr0; cases hr0
      · rw [upd_ne h1, upd_same]
    have s4rc : S4 rc = some (.lst [.ref r0]) := by rw [← hS4, upd_same]
    have D0 : DeskAt K A S4 H1 dk dx pa VaflxkNeutral.start :=
      ⟨⟨pr, rc, [], hd1, hpa, ⟨[], s4pr, .nil, by decide⟩, ⟨[.ref r0], s4rc, .cons ⟨r0, rfl, s4r0⟩ .nil⟩, .nil⟩, G4.sub, sdk, spa, ⟨by decide, (fun _ z => nomatch z), Nat.zero_le _⟩⟩
    walk_at "go"
    refine w_obj (show 0 ≤ 1000000 by decide) (fun f hf => ?_)
    have sf : S4 f = none := G4.sub.free hf
    have D1 := D0.keep (same_upd (o := .lst []) hf)
    have nfd : f ≠ dk := fun z => by rw [z, hd1] at hf; cases hf
    have nfp : f ≠ pa := fun z => by rw [z, hpa] at hf; cases hf
    have hf1 : (upd H1 f (.lst [])) f = some (.lst []) := upd_same
    generalize upd H1 f (.lst []) = H2 at D1 hf1 ⊢
    walk_at "go"
    refine ⟨rfl, a, l, cs, S4, rfl, D1.hS, Same.seq G4.up ha, hz, ec, fun S5 g H3 vs' G5 hg hcs => ?_⟩
    have D2 := D1.up G5
    have hf3 := G5.Same _ _ hf1
    have sf5 : S5 f = none := G5.out (by rw [hf1]; exact fun z => nomatch z) sf
    refine w_isforl (xs := vs') (fun i σ H' => ∃ S' pa' v w, σ = [some (.ref a), some (.ref dk), some (.ref f), v, w] ∧ DeskAt K A S' H' dk dx pa' (stAfter VaflxkNeutral.start (cs.take i)) ∧ Same S5 S' ∧ H' f = some (.lst (vI (PyFlat.told (PyFlat.played VaflxkNeutral.step VaflxkNeutral.start (cs.take i))))) ∧ S' f = none ∧ f ≠ pa') (SqL.of (D2.hS _ _ hg))
      ⟨S5, pa, none, none, rfl, D2, L2.Same.refl S5, hf3, sf5, nfp⟩ (fun i σ H' _ ⟨S', pa', v, w, _, D', e', _⟩ => SqL.of (D'.hS _ _ (e' _ _ hg))) ?_ ?_
    · rintro i x σ H' hi ⟨S', pa', v, w, rfl, D', e', hf', sf', nfp'⟩
      obtain ⟨c, hci, ca, rfl, hca⟩ := Paired.get' hcs hi
      have hcm := List.mem_of_getElem? hci
      have hpre : PyFlat.told (PyFlat.played VaflxkNeutral.step VaflxkNeutral.start (cs.take (i + 1))) = PyFlat.told (PyFlat.played VaflxkNeutral.step VaflxkNeutral.start (cs.take i)) ++ ((((VaflxkNeutral.step (stAfter VaflxkNeutral.start (cs.take i)) c).2).length : Int) :: (VaflxkNeutral.step (stAfter VaflxkNeutral.start (cs.take i)) c).2) := by
        rw [List.take_add_one, hci]
        show PyFlat.told (PyFlat.played _ _ (cs.take i ++ [c])) = _
        rw [played_snoc, told_snoc]
      have hst : stAfter VaflxkNeutral.start (cs.take (i + 1)) = (VaflxkNeutral.step (stAfter VaflxkNeutral.start (cs.take i)) c).1 := by
        rw [List.take_add_one, hci]
        exact st_snoc ..
      have hle : (PyFlat.told (PyFlat.played VaflxkNeutral.step VaflxkNeutral.start (cs.take (i + 1)))).length ≤ 10000000 := by
        have e5 : cs = cs.take (i + 1) ++ cs.drop (i + 1) := (List.take_append_drop ..).symm
        rw [e5, played_app, told_app, List.length_append] at hsh
        omega
      rw [hpre, List.length_append, List.length_cons] at hle
      walk_at "go"
      refine ⟨rfl, dk, dx, pa', ca, _, c, S', rfl, D', (CallAt.mono hca e'), hc c hcm, by omega, fun S6 H6 pa6 b G6 D6 hpa6 hb nb hbp => ?_⟩
      have hf6 : H6 f = some (.lst (vI (PyFlat.told (PyFlat.played VaflxkNeutral.step VaflxkNeutral.start (cs.take i))))) := G6.same _ _ hf' (by rintro (z | z); exact nfd z; exact nfp' z)
      have sf6 : S6 f = none := G6.out (by rw [hf']; exact fun z => nomatch z) sf'
      have nfp6 : f ≠ pa6 := by
        rcases hpa6 with z | z
        · rw [z]; exact nfp'
        · exact ne_of_none hf' z
      have nfb : f ≠ b := ne_of_none hf' nb
      have sqb : SqL K H6 b (vI (VaflxkNeutral.step (stAfter VaflxkNeutral.start (cs.take i)) c).2) := SqL.of hb
      walk_at "go"
      have lim : (10000001 : Nat) ≤ sizeLine := by decide
      refine w_app hf6 (by unfold vI; rw [List.length_map]; omega) ?_
      have D7 := D6.other (o := .lst (vI (PyFlat.told (PyFlat.played VaflxkNeutral.step VaflxkNeutral.start (cs.take i))) ++ [.int ((vI (VaflxkNeutral.step (stAfter VaflxkNeutral.start (cs.take i)) c).2).length : Nat)])) nfd nfp6 sf6
      walk_at "go"
      refine w_tyL upd_same ?_
      walk_at "go"
      refine w_ext upd_same (up_ne hb (Ne.symm nfb)) ?_ ?_
      · unfold vI
        rw [List.length_append, List.length_singleton, List.length_map, List.length_map]
        omega
      · rw [upd_upd]
        refine ⟨S6, pa6, _, _, rfl, ?_, e'.trans G6.up, ?_, sf6, nfp6⟩
        · rw [hst]
          exact D6.other nfd nfp6 sf6
        · rw [upd_same, hpre]
          congr 2
          unfold vI
          rw [List.map_append, List.map_cons, List.append_assoc, List.length_map]
          rfl
    · rintro σ H' ⟨S', pa', v, w, rfl, D', e', hf', _, _⟩
      walk_at "go"
      rw [Paired.len hcs, List.take_length] at hf'
      exact q H' f hf'
end
/-! ### what two texts have in common -/
theorem front_le : ∀ (a b : List UInt8), Vaflxk.commonFront a b ≤ a.length ∧ Vaflxk.commonFront a b ≤ b.length
  | [], b => by
    have e : Vaflxk.commonFront [] b = 0 := by cases b <;> rfl
    rw [e]
    exact ⟨Nat.zero_le _, Nat.zero_le _⟩
  | x :: a, [] => ⟨Nat.zero_le _, Nat.zero_le _⟩
  | x :: a, y :: b => by
    have ih := front_le a b
    rw [Vaflxk.commonFront]
    split
    · rw [List.length_cons, List.length_cons]
      omega
    · exact ⟨Nat.zero_le _, Nat.zero_le _⟩
theorem ends_le (a b : List UInt8) : (Vaflxk.commonEnds a b).1 + (Vaflxk.commonEnds a b).2 ≤ a.length ∧ (Vaflxk.commonEnds a b).1 + (Vaflxk.commonEnds a b).2 ≤ b.length := by
  have h1 := front_le a b
  have h2 := front_le (a.drop (Vaflxk.commonFront a b)).reverse (b.drop (Vaflxk.commonFront a b)).reverse
  rw [List.length_reverse, List.length_reverse, List.length_drop, List.length_drop] at h2
  unfold Vaflxk.commonEnds
  dsimp only
  omega
theorem mid_len (u : List UInt8) (c : Nat × Nat) : (midOf u c).length ≤ u.length := by
  unfold midOf
  simp only [List.length_take, List.length_drop]
  omega
/-! ### the parts that have all of an edit -/
def spanH (h : G3 × Nat) : Vaflxk.Span := ⟨0, h.2, h.2 + h.1.1.length, h.1.2.1, h.1.2.2, .same⟩
theorem cands_are {k n : Nat} {sp : List Vaflxk.Span} {gs : List G3} (h : SpAre k n sp gs) (r : Vaflxa.Record) (o : List UInt8) (i j : Nat) (u : List UInt8) :
    (Vaflxk.candidates sp i j).map (fun s => Vaflxk.recordWith r s o i j u) = (candG i j n gs).map fun h => Vaflxk.recordWith r (spanH h) o i j u := by
  induction h with
  | nil => rfl
  | @cons k n s g l m hs _ ih =>
    obtain ⟨_, h2, h3, h4, h5⟩ := hs
    unfold Vaflxk.candidates at ih ⊢
    rw [candG]
    by_cases c : g.2.1 ≠ 0 ∧ n ≤ i ∧ j ≤ n + g.1.length
    · rw [if_pos c, List.filter_cons_of_pos, List.map_cons, List.map_cons, ih]
      · congr 1
        unfold Vaflxk.recordWith spanH
        dsimp only
        rw [h2, h4, h5]
      · rw [h2, h3, h4, Bool.and_eq_true, Bool.and_eq_true, decide_eq_true_eq, decide_eq_true_eq, bne_iff_ne]
        exact ⟨⟨c.1, c.2.1⟩, c.2.2⟩
    · rw [if_neg c, List.filter_cons_of_neg, ih]
      rw [h2, h3, h4, Bool.and_eq_true, Bool.and_eq_true, decide_eq_true_eq, decide_eq_true_eq, bne_iff_ne]
      exact fun z => c ⟨z.1.1, z.1.2, z.2⟩
theorem cand_mem {i j : Nat} : ∀ (gs : List G3) (n : Nat) (h : G3 × Nat), h ∈ candG i j n gs → h.1 ∈ gs ∧ h.1.2.1 ≠ 0 ∧ h.2 ≤ i ∧ j ≤ h.2 + h.1.1.length
  | [], _, _, z => nomatch z
  | g :: gs, n, h, z => by
    rw [candG] at z
    have rest : h ∈ candG i j (n + g.1.length) gs → h.1 ∈ g :: gs ∧ h.1.2.1 ≠ 0 ∧ h.2 ≤ i ∧ j ≤ h.2 + h.1.1.length := fun y => by
      obtain ⟨y1, y2⟩ := cand_mem gs _ h y
      exact ⟨List.mem_cons_of_mem _ y1, y2⟩
    split at z
    · rename_i c
      rcases List.mem_cons.mp z with rfl | y
      · exact ⟨List.mem_cons_self, c⟩
      · exact rest y
    · exact rest z
theorem pos_le {p : Vaflxa.Pos} {t : List UInt8} {a : Nat} (h : Vaflxa.placeOf p t = some a) : a ≤ t.length := by
  have mem : ∀ {l r : Cls}, a ∈ Vaflxa.borders l r t → a ≤ t.length := fun {l r} z => by
    unfold Vaflxa.borders at z
    have := List.mem_range.mp (List.mem_filter.mp z).1
    omega
  cases p with
  | start k =>
    unfold Vaflxa.placeOf at h
    dsimp only at h
    split at h
    · obtain rfl := Option.some.inj h
      assumption
    · cases h
  | finish k =>
    unfold Vaflxa.placeOf at h
    dsimp only at h
    split at h
    · obtain rfl := Option.some.inj h
      omega
    · cases h
  | left l r c =>
    unfold Vaflxa.placeOf at h
    dsimp only at h
    split at h
    · cases h
    · exact mem (List.mem_of_getElem? h)
  | right l r c =>
    unfold Vaflxa.placeOf at h
    dsimp only at h
    split at h
    · cases h
    · exact mem (List.mem_reverse.mp (List.mem_of_getElem? h))
/-- where a part's text stands in its field -/
theorem outs_in {r : Vaflxa.Record} : ∀ (l : Vaflxa.Program) (k : Nat) (gs : List G3), outsFrom r k l = .ok gs → ∀ g ∈ gs, g.2.1 ≠ 0 → ∃ t, r[g.2.1 - 1]? = some t ∧ g.2.2 + g.1.length ≤ t.length
  | [], k, gs, h, g, hg, _ => by
    injection h with h
    subst h
    cases hg
  | x :: l, k, gs, h, g, hg, hf => by
    rw [outsFrom] at h
    cases e : Vaflxa.pieceOut r x with
    | none => rw [e] at h; nomatch h
    | some t =>
      rw [e] at h
      dsimp only at h
      cases e2 : outsFrom r (k + 1) l with
      | error z => rw [e2] at h; cases h
      | ok gs' =>
        rw [e2] at h
        injection h with h
        subst h
        rcases List.mem_cons.mp hg with rfl | hg2
        · cases x with
          | const v => exact absurd rfl hf
          | sub f p q c =>
            have e : (Vaflxa.taken r f p q).map (fun s => Vaflxa.cased c (((r.getD (f - 1) []).take s.2).drop s.1)) = some t := e
            cases e3 : Vaflxa.taken r f p q with
            | none => rw [e3] at e; nomatch e
            | some s =>
              rw [e3] at e
              obtain rfl := Option.some.inj e
              show ∃ t, r[f - 1]? = some t ∧ ((Vaflxa.taken r f p q).map fun s => s.1).getD 0 + _ ≤ t.length
              rw [e3]
              unfold Vaflxa.taken at e3
              cases e7 : r[f - 1]? with
              | none => rw [e7] at e3; cases e3
              | some w =>
                rw [e7] at e3
                dsimp only at e3
                cases e5 : Vaflxa.placeOf p w with
                | none => rw [e5] at e3; cases e3
                | some a =>
                  cases e6 : Vaflxa.placeOf q w with
                  | none => rw [e5, e6] at e3; cases e3
                  | some b =>
                    rw [e5, e6] at e3
                    dsimp only at e3
                    split at e3
                    · rename_i hc
                      obtain rfl := Option.some.inj e3
                      have := pos_le e6
                      refine ⟨w, rfl, ?_⟩
                      show a + (Vaflxa.cased c (((r.getD (f - 1) []).take b).drop a)).length ≤ w.length
                      rw [cased_len, List.length_drop, List.length_take]
                      simp only [List.getD_eq_getElem?_getD, e7, Option.getD_some]
                      omega
                    · cases e3
        · exact outs_in l (k + 1) gs' e2 g hg2 hf
theorem outc_is {s : Vaflxk.State} {gs : List G3} (h : outsFrom s.record 0 s.program = .ok gs) (i j : Int) (u : List UInt8) : outc s gs i j u =
    if i < 0 ∨ j < i ∨ ((flat gs).length : Int) < j then .error (-2) else if Vaflxa.goodText 240 u = false then .error (-1) else if (candG i.toNat j.toNat 0 gs).isEmpty = true then .error (-3) else
    match ((candG i.toNat j.toNat 0 gs).map fun h => Vaflxk.recordWith s.record (spanH h) (flat gs) i.toNat j.toNat u).find? (fun q => Vaflxa.goodRecord q && Vaflxa.given q s.program == some (Vaflxk.replaced (flat gs) i.toNat j.toNat u)) with
    | none => .error (-9)
    | some r => .ok r := by
  obtain ⟨sp, h1, h2⟩ := spans_are s.record s.program 0 0 gs h
  have e1 : (Vaflxk.spansOf s.record s.program).getD [] = sp := by
    unfold Vaflxk.spansOf
    rw [h1]
    rfl
  have e2 := cands_are h2 s.record (flat gs) i.toNat j.toNat u
  have e3 : (Vaflxk.candidates sp i.toNat j.toNat).isEmpty = (candG i.toNat j.toNat 0 gs).isEmpty := by
    have := congrArg List.isEmpty e2
    rw [List.isEmpty_map, List.isEmpty_map] at this
    exact this
  unfold outc Vaflxk.outcome Vaflxk.ledBack
  rw [e1, e2, e3]
  have e4 : (!Vaflxa.goodText 240 u) = true ↔ Vaflxa.goodText 240 u = false := by cases Vaflxa.goodText 240 u <;> simp
  simp only [e4]
  rfl
/-- a record with an edit done in a field, as the narrow edit does it -/
theorem rec_is {r : Vaflxa.Record} {g : G3} {n i j : Nat} {t u o : List UInt8} (hf : r[g.2.1 - 1]? = some t) (hin : g.2.2 + g.1.length ≤ t.length) (hn : n ≤ i) (hij : i ≤ j) (hj : j ≤ n + g.1.length) (ho : j ≤ o.length) :
    Vaflxk.recordWith r (spanH (g, n)) o i j u = r.set (g.2.1 - 1) (t.take (g.2.2 + (i + (Vaflxk.commonEnds ((o.take j).drop i) u).1 - n)) ++ midOf u (Vaflxk.commonEnds ((o.take j).drop i) u) ++ t.drop (g.2.2 + (j - (Vaflxk.commonEnds ((o.take j).drop i) u).2 - n))) := by
  have hc := (ends_le ((o.take j).drop i) u).1
  have hl : ((o.take j).drop i).length = j - i := by
    rw [List.length_drop, List.length_take, Nat.min_eq_left ho]
  rw [hl] at hc
  unfold Vaflxk.recordWith spanH Vaflxk.fieldBytes Vaflxk.replaced
  dsimp only
  rw [hl]
  have hg : r.getD (g.2.1 - 1) [] = t := by
    simp only [List.getD_eq_getElem?_getD, hf, Option.getD_some]
  rw [hg]
  congr 1
  show _ = _ ++ (u.drop _).take _ ++ _
  generalize Vaflxk.commonEnds ((o.take j).drop i) u = c at hc ⊢
  generalize (u.drop c.1).take (u.length - c.1 - c.2) = mid
  have ea : g.2.2 + (j - n) = g.2.2 + (i - n) + (j - i) := by omega
  have eb : g.2.2 + (i + c.1 - n) = g.2.2 + (i - n) + c.1 := by omega
  have ec : g.2.2 + (j - c.2 - n) = g.2.2 + (i - n) + (j - i - c.2) := by omega
  rw [ea, eb, ec]
  have hz : g.2.2 + (i - n) + (j - i) ≤ t.length := by omega
  generalize g.2.2 + (i - n) = a at hz ⊢
  generalize j - i = m at hc hz ⊢
  have f1 : (t.take (a + m)).drop a = (t.drop a).take m := by
    rw [List.drop_take]
    congr 1
    omega
  rw [f1, List.take_take, Nat.min_eq_left (show c.1 ≤ m by omega), List.drop_take, List.drop_drop]
  have f2 : m - (m - c.2) = c.2 := by omega
  rw [f2, List.take_add]
  have f3 : t.drop (a + m) = (t.drop (a + (m - c.2))).drop c.2 := by
    rw [List.drop_drop]
    congr 1
    omega
  rw [f3]
  have f4 := List.take_append_drop c.2 (t.drop (a + (m - c.2)))
  simp only [List.append_assoc]
  rw [f4]
/-- the first that passes -/
theorem find_at {α : Type} {p : α → Bool} : ∀ {l : List α} {m : Nat} {y : α}, (∀ x ∈ l.take m, p x = false) → l[m]? = some y → p y = true → l.find? p = some y
  | [], m, y, _, h, _ => by cases h
  | x :: l, 0, y, _, h, hp => by
    obtain rfl := Option.some.inj h
    rw [List.find?_cons_of_pos hp]
  | x :: l, m + 1, y, ha, h, hp => by
    have h0 : p x = false := ha x (by rw [List.take_succ_cons]; exact List.mem_cons_self)
    rw [List.find?_cons_of_neg (by rw [h0]; exact Bool.false_ne_true)]
    exact find_at (fun z hz => ha z (by rw [List.take_succ_cons]; exact List.mem_cons_of_mem _ hz)) h hp
theorem find_no {α : Type} {p : α → Bool} {l : List α} (h : ∀ x ∈ l, p x = false) : l.find? p = none := by
  rw [List.find?_eq_none]
  intro x hx
  rw [h x hx]
  exact Bool.false_ne_true
section
variable {K : PySem.W.Frag} {mg : Str → Option Value} {A : Ads}
theorem pure_need_text (T : Fx K mg A) (vs : List V) (H : Hp) (Q : VK) (E : XK) (h : sp_need_text K A vs H Q E) : t_need_text K A E { nx := fun _ H' => Q .non H', rt := Q } (start ["text"] vs) H := by
  obtain ⟨_, t, bs, rfl, ht, hz, q1, q2⟩ := h
  unfold t_need_text
  walk_at "go"
  refine ⟨rfl, t, bs, 240, rfl, ht, hz, fun H' e => ?_⟩
  walk_at "go"
  cases hb : Vaflxa.goodText 240 bs with
  | true =>
    refine w_if2 (fun z => nomatch z) (fun _ => ?_)
    walk_at "go"
    exact q1 hb H' e
  | false =>
    refine w_if2 (fun _ => ?_) (fun z => nomatch z)
    exact w_err0 (q2 hb H' e)
theorem front_at : ∀ (x y : List UInt8) (k : Nat), (∀ m, m < k → x[m]? = y[m]?) → k ≤ x.length → k ≤ y.length → (k < x.length → k < y.length → x[k]? ≠ y[k]?) → Vaflxk.commonFront x y = k
  | [], y, k, _, h1, _, _ => by
    have e : Vaflxk.commonFront [] y = 0 := by cases y <;> rfl
    rw [e]
    rw [List.length_nil] at h1
    omega
  | c :: x, [], k, _, _, h2, _ => by
    rw [List.length_nil] at h2
    show 0 = k
    omega
  | c :: x, d :: y, 0, _, _, _, h3 => by
    rw [Vaflxk.commonFront]
    have := h3 (by rw [List.length_cons]; omega) (by rw [List.length_cons]; omega)
    rw [List.getElem?_cons_zero, List.getElem?_cons_zero] at this
    rw [if_neg (fun z => this (by rw [z]))]
  | c :: x, d :: y, k + 1, ha, h1, h2, h3 => by
    rw [Vaflxk.commonFront]
    have h0 := ha 0 (by omega)
    rw [List.getElem?_cons_zero, List.getElem?_cons_zero] at h0
    rw [if_pos (Option.some.inj h0)]
    rw [List.length_cons] at h1 h2
    rw [front_at x y k (fun m hm => ?_) (by omega) (by omega) (fun z1 z2 => ?_)]
    · have := ha (m + 1) (by omega)
      rw [List.getElem?_cons_succ, List.getElem?_cons_succ] at this
      exact this
    · have := h3 (by rw [List.length_cons]; omega) (by rw [List.length_cons]; omega)
      rw [List.getElem?_cons_succ, List.getElem?_cons_succ] at this
      exact this
theorem byte_eq {c d : UInt8} : decide (V.int (c.toNat : Int) = V.int (d.toNat : Int)) = decide (c = d) := by
  by_cases h : c = d
  · rw [h, decide_eq_true rfl, decide_eq_true rfl]
  · rw [decide_eq_false h, decide_eq_false (fun z => h (UInt8.toNat_inj.mp (by have := V.int.inj z; omega)))]
theorem pure_common_beginning (T : Fx K mg A) (vs : List V) (H : Hp) (Q : VK) (E : XK) (h : sp_common_beginning K A vs H Q E) : t_common_beginning K A E { nx := fun _ H' => Q .non H', rt := Q } (start ["left", "right", "most", "count"] vs) H := by
  obtain ⟨_, a, b, x, y, rfl, ha, hb, q⟩ := h
  unfold t_common_beginning
  walk_at "go"
  rw [vBs_length, vBs_length]
  refine w_min2 ?_
  walk_at "go"
  refine w_while (fun m σ H' => H' = H ∧ ∃ k : Nat, σ = [some (.ref a), some (.ref b), some (.int (min x.length y.length : Nat)), some (.int (k : Nat))] ∧ m = min x.length y.length - k ∧ k ≤ min x.length y.length ∧ ∀ j, j < k → x[j]? = y[j]?) _ ⟨rfl, 0, rfl, rfl, Nat.zero_le _, fun j hj => absurd hj (Nat.not_lt_zero j)⟩ ?_
  rintro m σ H' ⟨rfl, k, rfl, rfl, hk, key⟩
  walk_at "go"
  refine w_if2 (fun h1 => ?_) (fun h1 => ?_)
  · have h1 : (k : Int) < ((min x.length y.length : Nat) : Int) := of_decide_eq_true h1
    obtain ⟨c, hc⟩ := get_lt (bs := x) (p := k) (by omega)
    obtain ⟨d, hd⟩ := get_lt (bs := y) (p := k) (by omega)
    walk_at "go"
    refine w_eq rfl ?_
    walk_at "go"
    rw [byte_eq]
    refine w_if2 (fun h2 => ?_) (fun h2 => ?_)
    · have h2 : c = d := of_decide_eq_true h2
      refine w_turn ?_
      refine ⟨_, rfl, ?_⟩
      walk_at "go"
      refine ⟨_, _, rfl, rfl, _, ?_, rfl, k + 1, rfl, rfl, by omega, fun j hj => ?_⟩
      · omega
      · by_cases e : j = k
        · rw [e, hc, hd, h2]
        · exact key j (by omega)
    · have h2 : c ≠ d := of_decide_eq_false h2
      walk_at "go"
      rw [front_at x y k key (by omega) (by omega) (fun _ _ z => h2 (by rw [hc, hd] at z; exact Option.some.inj z))] at q
      exact q
  · have h1 : ¬ (k : Int) < ((min x.length y.length : Nat) : Int) := of_decide_eq_false h1
    walk_at "go"
    rw [front_at x y k key (by omega) (by omega) (fun z1 z2 => by omega)] at q
    exact q
theorem rev_drop_get (x : List UInt8) (p k : Nat) (h : k < x.length - p) : (x.drop p).reverse[k]? = x[x.length - 1 - k]? := by
  rw [List.getElem?_reverse (by rw [List.length_drop]; exact h), List.length_drop, List.getElem?_drop]
  congr 1
  omega
theorem pure_common_end (T : Fx K mg A) (vs : List V) (H : Hp) (Q : VK) (E : XK) (h : sp_common_end K A vs H Q E) : t_common_end K A E { nx := fun _ H' => Q .non H', rt := Q } (start ["left", "right", "first", "most", "count"] vs) H := by
  obtain ⟨_, a, b, x, y, p, rfl, ha, hb, hpx, hpy, q⟩ := h
  have l1 : (x.drop p).reverse.length = x.length - p := by rw [List.length_reverse, List.length_drop]
  have l2 : (y.drop p).reverse.length = y.length - p := by rw [List.length_reverse, List.length_drop]
  unfold t_common_end
  walk_at "go"
  rw [vBs_length, vBs_length]
  refine w_min2 ?_
  walk_at "go"
  have e0 : ((min x.length y.length : Nat) : Int) - (p : Int) = ((min x.length y.length - p : Nat) : Int) := by omega
  rw [e0]
  refine w_while (fun m σ H' => H' = H ∧ ∃ k : Nat, σ = [some (.ref a), some (.ref b), some (.int (p : Nat)), some (.int (min x.length y.length - p : Nat)), some (.int (k : Nat))] ∧ m = min x.length y.length - p - k ∧ k ≤ min x.length y.length - p ∧ ∀ j, j < k → (x.drop p).reverse[j]? = (y.drop p).reverse[j]?) _ ⟨rfl, 0, rfl, rfl, Nat.zero_le _, fun j hj => absurd hj (Nat.not_lt_zero j)⟩ ?_
  rintro m σ H' ⟨rfl, k, rfl, rfl, hk, key⟩
  walk_at "go"
  refine w_if2 (fun h1 => ?_) (fun h1 => ?_)
  · have h1 : (k : Int) < ((min x.length y.length - p : Nat) : Int) := of_decide_eq_true h1
    obtain ⟨c, hc⟩ := get_lt (bs := x) (p := x.length - 1 - k) (by omega)
    obtain ⟨d, hd⟩ := get_lt (bs := y) (p := y.length - 1 - k) (by omega)
    have ex : (x.length : Int) - 1 - (k : Int) = ((x.length - 1 - k : Nat) : Int) := by omega
    have ey : (y.length : Int) - 1 - (k : Int) = ((y.length - 1 - k : Nat) : Int) := by omega
    walk_at "go"
    rw [vBs_length, ex]
    refine w_ixB ha hc ?_
    walk_at "go"
    rw [vBs_length, ey]
    refine w_ixB hb hd ?_
    refine w_eq rfl ?_
    walk_at "go"
    rw [byte_eq]
    refine w_if2 (fun h2 => ?_) (fun h2 => ?_)
    · have h2 : c = d := of_decide_eq_true h2
      refine w_turn ?_
      refine ⟨_, rfl, ?_⟩
      walk_at "go"
      refine ⟨_, _, rfl, rfl, _, ?_, rfl, k + 1, rfl, rfl, by omega, fun j hj => ?_⟩
      · omega
      · by_cases e : j = k
        · rw [e, rev_drop_get x p k (by omega), rev_drop_get y p k (by omega), hc, hd, h2]
        · exact key j (by omega)
    · have h2 : c ≠ d := of_decide_eq_false h2
      walk_at "go"
      rw [front_at _ _ k key (by omega) (by omega) (fun _ _ z => h2 (by rw [rev_drop_get x p k (by omega), rev_drop_get y p k (by omega), hc, hd] at z; exact Option.some.inj z))] at q
      exact q
  · have h1 : ¬ (k : Int) < ((min x.length y.length - p : Nat) : Int) := of_decide_eq_false h1
    walk_at "go"
    rw [front_at _ _ k key (by omega) (by omega) (fun z1 z2 => by omega)] at q
    exact q
end
theorem cut_to {xs : List V} {b : Nat} (h : b ≤ xs.length) : cutV xs none (some (b : Int)) = xs.take b := by
  unfold cutV
  rw [HT.sIx_nat, HT.sIx_none, List.drop_zero, Nat.sub_zero, Nat.min_eq_left h]
theorem cut_from {xs : List V} {a : Nat} (h : a ≤ xs.length) : cutV xs (some (a : Int)) none = xs.drop a := by
  unfold cutV
  rw [HT.sIx_nat, HT.sIx_none, Nat.min_eq_left h]
  exact List.take_of_length_le (by rw [List.length_drop]; exact Nat.le_refl _)
theorem vBs_cut (t : List UInt8) (a b : Nat) : ((vBs t).take b).drop a = vBs ((t.take b).drop a) := by
  unfold vBs
  rw [List.map_drop, List.map_take]
theorem vBs_app (a b : List UInt8) : vBs a ++ vBs b = vBs (a ++ b) := by
  unfold vBs
  rw [List.map_append]
theorem EditAt.mono {A : Ads} {S S' : Hp} {a : Addr} {i j : Int} {u : List UInt8} (h : EditAt A S a i j u) (e : Same S S') : EditAt A S' a i j u := by
  obtain ⟨dx, t, h1, h2⟩ := h
  exact ⟨dx, t, e _ _ h1, e _ _ h2⟩
theorem ShownAt.mono {K : PySem.W.Frag} {A : Ads} {S S' : Hp} {a : Addr} {s : Vaflxk.State} {gs : List G3} (h : ShownAt K A S a s gs) (e : Same S S') : ShownAt K A S' a s gs := by
  obtain ⟨dx, pr, rc, ga, oa, ws, h1, h2, h3, h4, h5, h6, h7, h8⟩ := h
  exact ⟨dx, pr, rc, ga, oa, ws, e _ _ h1, h2.mono e, h3.mono e, h4, h5, e _ _ h6, Paired.mapP h7 fun _ _ z => z.mono e, e _ _ h8⟩
theorem shown_small {K : PySem.W.Frag} {A : Ads} {S : Hp} {a : Addr} {s : Vaflxk.State} {gs : List G3} (h : ShownAt K A S a s gs) : (∀ g ∈ gs, g.1.length ≤ 1000) ∧ gs.length ≤ 6 := by
  obtain ⟨dx, pr, rc, ga, oa, ws, h1, h2, h3, h4, h5, h6, h7, h8⟩ := h
  obtain ⟨g1, g2⟩ := good_small h4
  obtain ⟨s1, s2⟩ := prog_short h2
  obtain ⟨l1, l2⟩ := outs_len (fun t ht => Nat.le_trans (g1 t ht) (by decide)) _ _ _ s1 h5
  exact ⟨l1, by omega⟩
section
variable {K : PySem.W.Frag} {mg : Str → Option Value} {A : Ads}
theorem pure_narrowed (T : Fx K mg A) (vs : List V) (H : Hp) (Q : VK) (E : XK) (h : sp_narrowed K A vs H Q E) : t_narrowed K A E { nx := fun _ H' => Q .non H', rt := Q } (start ["output", "edit", "old", "first", "final"] vs) H := by
  obtain ⟨_, o, e, S, ou, i, j, u, rfl, hS, ho, ⟨dx, t, he, ht⟩, hij, hj, q⟩ := h
  have he0 := hS _ _ he
  have so : SqL K H o (vBs ou) := SqL.of (hS _ _ ho)
  unfold t_narrowed
  walk_at "go"
  refine w_cut so (fun p hp => ?_)
  rw [cutV_nat (by rw [vBs_length]; exact hj), vBs_cut]
  have hol : ((ou.take j).drop i).length = j - i := by
    rw [List.length_drop, List.length_take, Nat.min_eq_left hj]
  have hc := ends_le ((ou.take j).drop i) u
  rw [hol] at hc
  have hf := front_le ((ou.take j).drop i) u
  generalize (ou.take j).drop i = old at hol hc hf q ⊢
  have G1 := Grow.laid (r := nobody) (o := .lst (vBs old)) hS hp
  have he1 := G1.Same _ _ he0
  have sp : SqL K (upd H p (.lst (vBs old))) p (vBs old) := SqL.of upd_same
  have st : SqL K (upd H p (.lst (vBs old))) t (vBs u) := SqL.of (G1.sub _ _ (G1.up _ _ ht))
  walk_at "go"
  refine ⟨rfl, p, t, old, u, rfl, sp, st, ?_⟩
  walk_at "go"
  refine ⟨rfl, p, t, old, u, Vaflxk.commonFront old u, rfl, sp, st, hf.1, hf.2, ?_⟩
  walk_at "go"
  rw [vBs_length]
  have hc1 : Vaflxk.commonFront old u + Vaflxk.commonFront (old.drop (Vaflxk.commonFront old u)).reverse (u.drop (Vaflxk.commonFront old u)).reverse ≤ j - i := hc.1
  have hc2 : Vaflxk.commonFront old u + Vaflxk.commonFront (old.drop (Vaflxk.commonFront old u)).reverse (u.drop (Vaflxk.commonFront old u)).reverse ≤ u.length := hc.2
  have q : ∀ S' x H', Grow nobody S H S' H' → EditAt A S' x ((i + Vaflxk.commonFront old u : Nat) : Int) ((j - Vaflxk.commonFront (old.drop (Vaflxk.commonFront old u)).reverse (u.drop (Vaflxk.commonFront old u)).reverse : Nat) : Int) (midOf u (Vaflxk.commonFront old u, Vaflxk.commonFront (old.drop (Vaflxk.commonFront old u)).reverse (u.drop (Vaflxk.commonFront old u)).reverse)) → Q (.ref x) H' := q
  generalize Vaflxk.commonFront (old.drop (Vaflxk.commonFront old u)).reverse (u.drop (Vaflxk.commonFront old u)).reverse = c2 at hc1 hc2 q ⊢
  generalize Vaflxk.commonFront old u = c1 at hc1 hc2 q ⊢
  have el : (u.length : Int) - (c2 : Int) = ((u.length - c2 : Nat) : Int) := by omega
  refine w_cut st (fun m hm => ?_)
  rw [el, cutV_nat (by rw [vBs_length]; omega), vBs_cut]
  have em : (u.take (u.length - c2)).drop c1 = midOf u (c1, c2) := by
    unfold midOf
    dsimp only
    rw [List.drop_take]
    congr 1
    omega
  rw [em]
  have G2 := G1.trans (Grow.laid (o := .lst (vBs (midOf u (c1, c2)))) G1.sub hm)
  walk_at "go"
  refine w_new rfl (fun x d hx hd hne => ?_)
  have G3 := Grow.inst (r := nobody) (C := A.c_Edit) (fs := fo_Edit [.int ((i : Int) + (c1 : Int)), .int ((j : Int) - (c2 : Int)), .ref m]) G2.sub hx hd hne
  refine q _ x _ (G2.trans G3) ⟨d, m, ?_, G3.up _ _ upd_same⟩
  rw [upd_same]
  have ej : (j : Int) - (c2 : Int) = ((j - c2 : Nat) : Int) := by omega
  rw [ej]
  rfl
theorem pure_holders (T : Fx K mg A) (vs : List V) (H : Hp) (Q : VK) (E : XK) (h : sp_holders K A vs H Q E) : t_holders K A E { nx := fun _ H' => Q .non H', rt := Q } (start ["shown", "edit", "found", "begin", "given", "end"] vs) H := by
  obtain ⟨_, sh, e, S, s, gs, i, j, u, rfl, hS, hshown, ⟨de, te, he, hte⟩, q⟩ := h
  have hsm := shown_small hshown
  obtain ⟨dx, pr, rc, ga, oa, ws, hsh, _, _, _, _, hga, hgs, _⟩ := hshown
  have hlen : ws.length = gs.length := Paired.len hgs
  unfold t_holders
  walk_at "go"
  refine w_obj (show 0 ≤ 1000000 by decide) (fun f hf => ?_)
  have G0 : Grow nobody S H S (upd H f (.lst [])) := Grow.made hS hf
  have hsh0 := G0.sub _ _ hsh
  walk_at "go"
  refine w_isforl (xs := ws) (fun k σ H' => ∃ S' vs' pre v4 v5, σ = [some (.ref sh), some (.ref e), some (.ref f), some (.int ((flat (gs.take k)).length : Nat)), v4, v5] ∧ Grow nobody S H S' H' ∧ H' f = some (.lst vs') ∧ S' f = none ∧ Paired (IsHold A S') vs' pre ∧ vs'.length ≤ k ∧ candG i j 0 gs = pre ++ candG i j (flat (gs.take k)).length (gs.drop k)) (SqL.of (G0.sub _ _ hga))
    ⟨S, [], [], none, none, rfl, G0, upd_same, hS.free hf, .nil, Nat.le_refl _, by rw [List.drop_zero]; rfl⟩ (fun k σ H' _ ⟨S', vs', pre, v4, v5, _, G, _⟩ => SqL.of (G.sub _ _ (G.up _ _ hga))) ?_ ?_
  · rintro k x σ H' hk ⟨S', vs', pre, v4, v5, rfl, G, hfl, sf, hp, hz, key⟩
    obtain ⟨g, hg, b, rfl, hgv⟩ := Paired.get' hgs hk
    have hgv1 := hgv.mono (G.up.trans G.sub)
    obtain ⟨dg, at_, hb, hat⟩ := hgv1
    have sat : SqL K H' at_ (vBs g.1) := SqL.of hat
    have he1 := G.sub _ _ (G.up _ _ he)
    have hkl : k < gs.length := (List.getElem?_eq_some_iff.mp hg).1
    have hwl : k < ws.length := (List.getElem?_eq_some_iff.mp hk).1
    have en : (flat (gs.take (k + 1))).length = (flat (gs.take k)).length + g.1.length := by rw [flat_snoc gs k g hg, List.length_append]
    rw [drop_get hg, candG] at key
    generalize (flat (gs.take k)).length = n at key en ⊢
    walk_at "go"
    rw [vBs_length]
    have no : ¬ (g.2.1 ≠ 0 ∧ n ≤ i ∧ j ≤ n + g.1.length) → (tNext : TS) { nx := fun σ' H'_1 => (tAsg (tVar 5) (gName 3) : TS) { nx := fun σ H' => ∃ S' vs' pre v4 v5, σ = [some (.ref sh), some (.ref e), some (.ref f), some (.int ((flat (gs.take (k + 1))).length : Nat)), v4, v5] ∧ Grow nobody S H S' H' ∧ H' f = some (.lst vs') ∧ S' f = none ∧ Paired (IsHold A S') vs' pre ∧ vs'.length ≤ k + 1 ∧ candG i j 0 gs = pre ++ candG i j (flat (gs.take (k + 1))).length (gs.drop (k + 1)), rt := Q } σ' H'_1, rt := Q }
        [some (.ref sh), some (.ref e), some (.ref f), some (.int (n : Nat)), some (.ref b), some (.int ((n : Int) + (g.1.length : Int)))] H' := fun c => by
      rw [if_neg c, ← en] at key
      walk_at "go"
      refine ⟨S', vs', pre, some (.ref b), some (.int ((n : Int) + (g.1.length : Int))), ?_, G, hfl, sf, hp, by omega, key⟩
      rw [en]
      rfl
    refine w_if2 (fun h1 => ?_) (fun h1 => ?_)
    · have h1 : (0 : Int) < (g.2.1 : Int) := of_decide_eq_true h1
      walk_at "go"
      refine w_if2 (fun h2 => ?_) (fun h2 => ?_)
      · have h2 : (n : Int) ≤ (i : Int) := of_decide_eq_true h2
        walk_at "go"
        refine w_if2 (fun h3 => ?_) (fun h3 => ?_)
        · have h3 : (j : Int) ≤ (n : Int) + (g.1.length : Int) := of_decide_eq_true h3
          rw [if_pos ⟨by omega, by omega, by omega⟩, ← en] at key
          walk_at "go"
          refine w_obj (show 2 ≤ 1000000 by decide) (fun w hw => ?_)
          have G1 := G.trans (Grow.laid (o := .tup [.ref b, .int (n : Nat)]) G.sub hw)
          have up1 := (Grow.laid (r := nobody) (o := .tup [.ref b, .int (n : Nat)]) G.sub hw).up
          have hf1 := (Grow.laid (r := nobody) (o := .tup [.ref b, .int (n : Nat)]) G.sub hw).Same _ _ hfl
          have sf1 := (Grow.laid (r := nobody) (o := .tup [.ref b, .int (n : Nat)]) G.sub hw).out (by rw [hfl]; exact fun z => nomatch z) sf
          walk_at "go"
          refine w_app hf1 (Nat.lt_of_lt_of_le (show vs'.length < 1000 by omega) (by decide)) ?_
          · walk_at "go"
            refine ⟨_, vs' ++ [.ref w], pre ++ [(g, n)], some (.ref b), some (.int ((n : Int) + (g.1.length : Int))), ?_, G1.put_new hf (by rw [hf1]; exact fun z => nomatch z) sf1, upd_same, sf1, Paired.snoc (Paired.mapP hp fun _ _ z => ?_) ⟨w, b, rfl, upd_same, (hgv.mono G.up).mono up1⟩, by rw [List.length_append, List.length_singleton]; omega, ?_⟩
            · rw [en]
              rfl
            · obtain ⟨t1, b1, z1, z2, z3⟩ := z
              exact ⟨t1, b1, z1, up1 _ _ z2, z3.mono up1⟩
            · rw [key, List.append_assoc]
              rfl
        · have h3 : ¬ (j : Int) ≤ (n : Int) + (g.1.length : Int) := of_decide_eq_false h3
          exact no fun z => by omega
      · have h2 : ¬ (n : Int) ≤ (i : Int) := of_decide_eq_false h2
        walk_at "go1"
        walk_at "go1"
        exact no fun z => by omega
    · have h1 : ¬ (0 : Int) < (g.2.1 : Int) := of_decide_eq_false h1
      walk_at "go1"
      exact no fun z => by omega
  · rintro σ H' ⟨S', vs', pre, v4, v5, rfl, G, hfl, sf, hp, hz, key⟩
    walk_at "go"
    rw [hlen, List.drop_length] at key
    have key : candG i j 0 gs = pre ++ [] := key
    rw [List.append_nil] at key
    rw [key] at q
    refine q _ f H' vs' (G.fix hf hfl) upd_same (Paired.mapP hp fun _ _ z => ?_)
    obtain ⟨t1, b1, z1, z2, z3⟩ := z
    exact ⟨t1, b1, z1, same_upd sf _ _ z2, z3.mono (same_upd sf)⟩
end
theorem w_defS {sp : Sp} {E : L2.St → XK} {ts : TA} {σ : L2.St} {H : Hp} {Q : VK} (h : ts σ H fun vs H1 => sp vs H1 Q (E σ)) : tDefS sp E ts σ H Q := h
/-! ### lists of whole numbers, compared -/
def IsEqD (K : PySem.W.Frag) (x y : V) (H : Hp) (Q : VK) : Prop := L2.rEqD K x y H Q
theorem int_lay : ∀ (l : List Int), PyData.canLayAll0 (l.map PyData.int) = true ∧ PyData.depthAll (l.map PyData.int) = 0
  | [] => ⟨rfl, rfl⟩
  | i :: l => by
    obtain ⟨h1, h2⟩ := int_lay l
    rw [List.map_cons, PyData.canLayAll0, PyData.depthAll, h1, h2]
    exact ⟨rfl, rfl⟩
theorem int_shape (l : List Int) : SeqAt.shaped (.list (l.map PyData.int)) = true := by
  unfold SeqAt.shaped
  rw [PyData.canLay0, PyData.depth, (int_lay l).1, (int_lay l).2]
  rfl
theorem int_eqv : ∀ (l m : List Int), PyData.eqvAll (l.map PyData.int) (m.map PyData.int) = decide (l = m)
  | [], [] => rfl
  | [], _ :: _ => rfl
  | _ :: _, [] => rfl
  | i :: l, j :: m => by
    rw [List.map_cons, List.map_cons, PyData.eqvAll, int_eqv l m]
    have e : PyData.eqv (.int i) (.int j) = (i == j) := by rw [PyData.eqv]
    rw [e]
    by_cases h1 : i = j
    · subst h1
      by_cases h2 : l = m
      · subst h2
        simp
      · simp [h2]
    · simp [h1]
theorem dp_ints {K : PySem.W.Frag} {H : Hp} : ∀ (l : List Int), DpAll K H (vI l) (l.map PyData.int)
  | [] => .nil
  | i :: l => .cons (.int i) (dp_ints l)
theorem w_eqI {K : PySem.W.Frag} {H : Hp} {Q : VK} {a b : Addr} {l m : List Int} (h1 : SqL K H a (vI l)) (h2 : SqL K H b (vI m)) (q : Q (.bl (decide (l = m))) H) : L2.rEqD K (.ref a) (.ref b) H Q := by
  refine ⟨_, _, .lst h1 (dp_ints l), .lst h2 (dp_ints m), int_shape l, int_shape m, ?_⟩
  rw [PyData.eqv, int_eqv]
  exact q
theorem numbers_inj : ∀ {a b : List UInt8}, Vaflxk.numbers a = Vaflxk.numbers b → a = b
  | [], [], _ => rfl
  | [], _ :: _, h => nomatch h
  | _ :: _, [], h => nomatch h
  | x :: a, y :: b, h => by
    have h : (x.toNat : Int) :: Vaflxk.numbers a = (y.toNat : Int) :: Vaflxk.numbers b := h
    injection h with h1 h2
    rw [numbers_inj h2, UInt8.toNat_inj.mp (show x.toNat = y.toNat by omega)]
theorem go_no {t : Tst} {ts : Addr → Value → Option Addr → TS} {a : Addr} {cls : Value} {d : Option Addr} {D : Ends} {σ : L2.St} {H : Hp} (h : ts a cls d D σ H) : (Cl.mk t none ts).go a cls d D σ H := h
theorem go_nm {t : Tst} {i : Nat} {ts : Addr → Value → Option Addr → TS} {a : Addr} {cls : Value} {d : Option Addr} {D : Ends} {σ : L2.St} {H : Hp} (h : ts a cls d ⟨fun σ1 H1 => D.nx (σ1.set i none) H1, D.rt, fun σ1 H1 => D.bk (σ1.set i none) H1, fun σ1 H1 => D.ct (σ1.set i none) H1⟩ (σ.set i (some (.ref a))) H) : (Cl.mk t (some i) ts).go a cls d D σ H := h
section
variable {K : PySem.W.Frag} {mg : Str → Option Value} {A : Ads}
theorem given_is {r : Vaflxa.Record} {p : Vaflxa.Program} {gs : List G3} (h : outsFrom r 0 p = .ok gs) : Vaflxa.given r p = some (flat gs) := by
  unfold Vaflxa.given
  rw [run_ok h]
  rfl
theorem given_no {r : Vaflxa.Record} {p : Vaflxa.Program} {i : Nat} (h : outsFrom r 0 p = .error i) : Vaflxa.given r p = none := by
  unfold Vaflxa.given
  rw [run_err h]
theorem pure_gives (T : Fx K mg A) (vs : List V) (H : Hp) (Q : VK) (E : XK) (h : sp_gives K A vs H Q E) : t_gives K A E { nx := fun _ H' => Q .non H', rt := Q } (start ["program", "record", "wanted"] vs) H := by
  obtain ⟨_, pr, rc, w, S, p, r, o, rfl, hS, hpr, hrc, hgood, hw, q⟩ := h
  obtain ⟨g1, g2⟩ := good_small hgood
  obtain ⟨s1, s2⟩ := prog_short hpr
  unfold t_gives
  show tRet (tOp (L2.rEqD K) (tDef (sp_joined K A) E0 (tCons (tDefS (sp_all_given K A) (WE (wMix K (fun _ _ _ _ => False) _ _)) (tCons (tVar 0) (tCons (tVar 1) tNil))) tNil)) (tVar 2)) _ _ H
  refine w_ret ?_
  refine w_op ?_
  refine w_def ?_
  refine w_cons ?_
  refine w_defS ?_
  walk_at "go"
  refine ⟨rfl, pr, p, rc, r, S, rfl, hS, hpr, hrc, fun t ht => Nat.le_trans (g1 t ht) (by decide), Nat.le_trans g2 (by decide), fun i hi H' d e2 hxd => ?_, fun gs hgs S2 a H2 vs' G2 ha hg => ?_⟩
  · refine ⟨true, T.xm_NoOutput_NoOutput, fun _ ea hea => ?_, fun z => nomatch z⟩
    refine go_no ?_
    refine w_ret (w_c ?_)
    have := q H' e2
    rw [given_no hi] at this
    exact this
  · obtain ⟨l1, l2⟩ := outs_len (fun t ht => Nat.le_trans (g1 t ht) (by decide)) _ _ _ s1 hgs
    walk_at "go"
    refine ⟨rfl, a, vs', gs, rfl, SqL.of (G2.sub _ _ ha), Paired.mapP hg fun _ _ z => z.mono G2.sub, l1, by omega, fun x hx => ?_⟩
    walk_at "go"
    have hw2 := same_upd (o := .lst (vBs (flat gs))) hx _ _ (G2.sub _ _ (G2.up _ _ hw))
    refine w_eqI (l := Vaflxk.numbers (flat gs)) (m := Vaflxk.numbers o) ?_ ?_ ?_
    · unfold vI
      rw [numbers_map]
      exact SqL.of upd_same
    · unfold vI
      rw [numbers_map]
      exact SqL.of hw2
    · have := q _ (G2.Same.trans (same_upd (o := .lst (vBs (flat gs))) hx))
      rw [given_is hgs] at this
      have e : (some (flat gs) == some o) = decide (Vaflxk.numbers (flat gs) = Vaflxk.numbers o) := by
        by_cases h : flat gs = o
        · rw [h, decide_eq_true rfl]
          exact beq_self_eq_true _
        · rw [decide_eq_false (fun z => h (numbers_inj z))]
          exact beq_eq_false_iff_ne.mpr (fun z => h (Option.some.inj z))
      rw [e] at this
      exact this
theorem Paired.set {α β : Type} {F : α → β → Prop} {l : List α} {m : List β} (h : Paired F l m) : ∀ (k : Nat) {x : α} {y : β}, F x y → Paired F (l.set k x) (m.set k y) := by
  induction h with
  | nil => intro k x y _; exact .nil
  | cons r t ih =>
    intro k x y q
    cases k with
    | zero => exact .cons q t
    | succ k => exact .cons r (ih k q)
theorem pure_changed_record (T : Fx K mg A) (vs : List V) (H : Hp) (Q : VK) (E : XK) (h : sp_changed_record K A vs H Q E) : t_changed_record K A E { nx := fun _ H' => Q .non H', rt := Q } (start ["record", "given", "begin", "edit", "field", "start", "end", "changed"] vs) H := by
  obtain ⟨_, rc, gv, ed, S, r, g, n, i, j, u, t, rfl, hS, ⟨xs, hrc, hps⟩, hr4, ⟨dg, ga, hgv, hga⟩, hf1, hft, ht40, ⟨de, te, hed, hte⟩, hu, hni, hij, hjt, q⟩ := h
  have hgv0 := hS _ _ hgv
  have hed0 := hS _ _ hed
  obtain ⟨v, hv, tb, rfl, htb⟩ := Paired.get hps hft
  have sqr : SqL K H rc xs := SqL.of (hS _ _ hrc)
  have stb : SqL K H tb (vBs t) := SqL.of (hS _ _ htb)
  have hxl : xs.length = r.length := Paired.len hps
  have hfl : g.2.1 - 1 < r.length := (List.getElem?_eq_some_iff.mp hft).1
  have ef : (g.2.1 : Int) - 1 = ((g.2.1 - 1 : Nat) : Int) := by omega
  unfold t_changed_record
  walk_at "go"
  refine w_ixL sqr (at_of ef hv) ?_
  walk_at "go"
  have ea : (g.2.2 : Int) + (i : Int) - (n : Int) = ((g.2.2 + (i - n) : Nat) : Int) := by omega
  have eb : (g.2.2 : Int) + (j : Int) - (n : Int) = ((g.2.2 + (j - n) : Nat) : Int) := by omega
  rw [ea, eb]
  refine w_list (Or.inl sqr) (fun l hl => ?_)
  have G1 : Grow nobody S H S (upd H l (.lst xs)) := Grow.made hS hl
  have hl1 : (upd H l (.lst xs)) l = some (.lst xs) := upd_same
  have sl : S l = none := hS.free hl
  generalize upd H l (.lst xs) = H1 at G1 hl1 ⊢
  have stb1 : SqL K H1 tb (vBs t) := SqL.of (G1.sub _ _ htb)
  walk_at "go"
  refine w_cut stb1 (fun p1 hp1 => ?_)
  rw [cut_to (by rw [vBs_length]; omega)]
  have e1 : (vBs t).take (g.2.2 + (i - n)) = vBs (t.take (g.2.2 + (i - n))) := by unfold vBs; rw [List.map_take]
  rw [e1]
  have G2 := G1.trans (Grow.made (r := nobody) (o := .lst (vBs (t.take (g.2.2 + (i - n))))) G1.sub hp1)
  have hl2 := same_upd (o := .lst (vBs (t.take (g.2.2 + (i - n))))) hp1 _ _ hl1
  have a1 : (upd H1 p1 (.lst (vBs (t.take (g.2.2 + (i - n)))))) p1 = some (.lst (vBs (t.take (g.2.2 + (i - n))))) := upd_same
  generalize upd H1 p1 (.lst (vBs (t.take (g.2.2 + (i - n))))) = H2 at G2 hl2 a1 ⊢
  have hed2 := G2.sub _ _ hed
  have hte2 := G2.sub _ _ hte
  walk_at "go"
  refine w_cat a1 hte2 (by rw [vBs_length, vBs_length, List.length_take]; omega) (fun p2 hp2 => ?_)
  rw [vBs_app]
  have G3 := G2.trans (Grow.made (r := nobody) (o := .lst (vBs (t.take (g.2.2 + (i - n)) ++ u))) G2.sub hp2)
  have hl3 := same_upd (o := .lst (vBs (t.take (g.2.2 + (i - n)) ++ u))) hp2 _ _ hl2
  have a2 : (upd H2 p2 (.lst (vBs (t.take (g.2.2 + (i - n)) ++ u)))) p2 = some (.lst (vBs (t.take (g.2.2 + (i - n)) ++ u))) := upd_same
  generalize upd H2 p2 (.lst (vBs (t.take (g.2.2 + (i - n)) ++ u))) = H3 at G3 hl3 a2 ⊢
  have stb3 : SqL K H3 tb (vBs t) := SqL.of (G3.sub _ _ htb)
  walk_at "go"
  refine w_cut stb3 (fun p3 hp3 => ?_)
  rw [cut_from (by rw [vBs_length]; omega)]
  have e2 : (vBs t).drop (g.2.2 + (j - n)) = vBs (t.drop (g.2.2 + (j - n))) := by unfold vBs; rw [List.map_drop]
  rw [e2]
  have G4 := G3.trans (Grow.made (r := nobody) (o := .lst (vBs (t.drop (g.2.2 + (j - n))))) G3.sub hp3)
  have hl4 := same_upd (o := .lst (vBs (t.drop (g.2.2 + (j - n))))) hp3 _ _ hl3
  have a3 := same_upd (o := .lst (vBs (t.drop (g.2.2 + (j - n))))) hp3 _ _ a2
  have a4 : (upd H3 p3 (.lst (vBs (t.drop (g.2.2 + (j - n)))))) p3 = some (.lst (vBs (t.drop (g.2.2 + (j - n))))) := upd_same
  generalize upd H3 p3 (.lst (vBs (t.drop (g.2.2 + (j - n))))) = H4 at G4 hl4 a3 a4 ⊢
  refine w_cat a3 a4 (by rw [vBs_length, vBs_length, List.length_append, List.length_take, List.length_drop]; omega) (fun p4 hp4 => ?_)
  rw [vBs_app]
  have L5 := Grow.laid (r := nobody) (o := .lst (vBs (t.take (g.2.2 + (i - n)) ++ u ++ t.drop (g.2.2 + (j - n))))) G4.sub hp4
  have G5 := G4.trans L5
  have hl5 := L5.Same _ _ hl4
  have sl5 := L5.out (by rw [hl4]; exact fun z => nomatch z) sl
  have hgv5 := G5.sub _ _ (L5.up _ _ hgv)
  refine w_gsub ?_
  walk_at "go"
  refine w_setl (k := 0) ef hl5 (by omega) ?_
  have G6 := G5.put_new (o := .lst (xs.set (g.2.1 - 1) (.ref p4))) hl (by rw [hl5]; exact fun z => nomatch z) sl5
  walk_at "go"
  refine q _ l _ (G6.fix hl upd_same) ⟨_, upd_same, ?_⟩
  refine Paired.set (Paired.mapP hps fun _ _ z => z.mono (L5.up.trans (same_upd sl5))) _ ⟨p4, rfl, ?_⟩
  exact same_upd sl5 _ _ upd_same
end
theorem any_two {K : PySem.W.Frag} {cls c d : Value} {a b : Bool} (h1 : PySem.W.exmOne K cls c = some a) (h2 : PySem.W.exmOne K cls d = some b) : PySem.W.exmAny K cls [c, d] = some (a || (b || false)) := by
  rw [PySem.W.exmAny, PySem.W.exmAny, PySem.W.exmAny, h1, h2]
theorem mix_two {K : PySem.W.Frag} {Wout : WX} {D : Ends} {c d cls : Value} {ts : Addr → Value → Option Addr → TS} {dd : Option Addr} {σ : L2.St} {H : Hp} {a b : Bool} (h1 : PySem.W.exmOne K cls c = some a) (h2 : PySem.W.exmOne K cls d = some b)
    (hy : (a || b) = true → ∀ x, H x = none → ts x cls dd D σ H) (hn : (a || b) = false → Wout cls dd σ H) : wMix K Wout D [⟨.two c d, none, ts⟩] cls dd σ H := by
  refine ⟨_, any_two h1 h2, fun z x hx => go_no (hy ?_ x hx), fun z => hn ?_⟩
  · rw [Bool.or_false] at z
    exact z
  · rw [Bool.or_false] at z
    exact z
theorem mem_set {r : List (List UInt8)} {k : Nat} {z t : List UInt8} (h : t ∈ r.set k z) : t ∈ r ∨ t = z := by
  rcases List.mem_or_eq_of_mem_set h with h | h
  · exact Or.inl h
  · exact Or.inr h
section
variable {K : PySem.W.Frag} {mg : Str → Option Value} {A : Ads}
theorem pure_led_back (T : Fx K mg A) (vs : List V) (H : Hp) (Q : VK) (E : XK) (h : sp_led_back K A vs H Q E) : t_led_back K A E { nx := fun _ H' => Q .non H', rt := Q } (start ["shown", "edit", "output", "parts", "wanted", "narrow", "given", "begin", "record"] vs) H := by
  obtain ⟨_, sh, e, S, s, gs, i, j, u, rfl, hS, hshown, hedit, hu, q1, q2⟩ := h
  have hsm := shown_small hshown
  have hshown0 := hshown
  have hedit0 := hedit
  obtain ⟨dx, pr, rc, ga, oa, ws, hsh, hpr, hrc, hgood, hgs0, hga, hgs, hoa⟩ := hshown
  obtain ⟨de, te, he, hte⟩ := hedit
  obtain ⟨good1, good2⟩ := good_small hgood
  have hfl := flat_len0 gs hsm.1
  rw [outc_is hgs0] at q1 q2
  have hsh0 := hS _ _ hsh
  have he0 := hS _ _ he
  have soa : SqL K H oa (vBs (flat gs)) := SqL.of (hS _ _ hoa)
  have bad : (i < 0 ∨ j < i ∨ ((flat gs).length : Int) < j) → E (.ref A.c_NoSuchPlace) none H := fun c => by
    rw [if_pos c] at q2
    exact q2 _ _ rfl (Or.inl ⟨rfl, rfl⟩) H (L2.Same.refl H)
  unfold t_led_back
  walk_at "go"
  refine w_chain3 ?_
  walk_at "go"
  refine w_if2 (fun h1 => ?_) (fun h1 => ?_)
  case refine_2 =>
    have h1 : ¬ (0 : Int) ≤ i := of_decide_eq_false h1
    walk_at "go"
    refine w_if2 (fun _ => w_err0 (bad (Or.inl (by omega)))) (fun z => nomatch z)
  have h1 : (0 : Int) ≤ i := of_decide_eq_true h1
  walk_at "go"
  refine w_if2 (fun h2 => ?_) (fun h2 => ?_)
  case refine_2 =>
    have h2 : ¬ i ≤ j := of_decide_eq_false h2
    walk_at "go"
    refine w_if2 (fun _ => w_err0 (bad (Or.inr (Or.inl (by omega))))) (fun z => nomatch z)
  have h2 : i ≤ j := of_decide_eq_true h2
  walk_at "go"
  rw [vBs_length]
  refine w_if2 (fun h3 => ?_) (fun h3 => ?_)
  · have h3 : ¬ j ≤ ((flat gs).length : Int) := fun z => by rw [decide_eq_true z] at h3; cases h3
    exact w_err0 (bad (Or.inr (Or.inr (by omega))))
  have h3 : j ≤ ((flat gs).length : Int) := by
    by_cases z : j ≤ ((flat gs).length : Int)
    · exact z
    · rw [decide_eq_false z] at h3
      cases h3
  obtain ⟨i, rfl⟩ := Int.eq_ofNat_of_zero_le h1
  obtain ⟨j, rfl⟩ := Int.eq_ofNat_of_zero_le (show 0 ≤ j by omega)
  have hij : i ≤ j := by omega
  have hjo : j ≤ (flat gs).length := by omega
  rw [if_neg (by omega)] at q1 q2
  have ti : ((i : Int)).toNat = i := rfl
  have tj : ((j : Int)).toNat = j := rfl
  rw [ti, tj] at q1 q2
  walk_at "go"
  refine ⟨rfl, te, u, rfl, SqL.of (hS _ _ hte), hu, fun hg H1 e1 => ?_, fun hg H1 e1 => by
    rw [if_pos hg] at q2
    exact q2 _ _ rfl (Or.inr (Or.inl ⟨rfl, rfl⟩)) H1 e1⟩
  have hu240 : u.length ≤ 240 := by
    unfold Vaflxa.goodText at hg
    rw [Bool.and_eq_true, decide_eq_true_eq] at hg
    exact hg.1
  rw [if_neg (by rw [hg]; exact fun z => nomatch z)] at q1 q2
  have G1 : Grow nobody S H S H1 := Grow.same_ hS e1
  walk_at "go"
  refine ⟨rfl, sh, e, S, s, gs, i, j, u, rfl, G1.sub, hshown0, hedit0, fun S2 a H2 ws2 G2 ha hp => ?_⟩
  have G12 := G1.trans G2
  have hlen : ws2.length = (candG i j 0 gs).length := Paired.len hp
  have sqa : SqL K H2 a ws2 := SqL.of (G12.sub _ _ ha)
  walk_at "go"
  refine w_eq rfl ?_
  walk_at "go"
  rw [hlen]
  refine w_if2 (fun h4 => ?_) (fun h4 => ?_)
  · have h4 : ((candG i j 0 gs).length : Int) = 0 := V.int.inj (of_decide_eq_true h4)
    have h5 : (candG i j 0 gs).isEmpty = true := by
      rw [List.isEmpty_iff_length_eq_zero]
      omega
    rw [if_pos h5] at q2
    exact w_err0 (q2 _ _ rfl (Or.inr (Or.inr (Or.inl ⟨rfl, rfl⟩))) H2 G12.Same)
  have h4 : ¬ V.int ((candG i j 0 gs).length : Int) = V.int 0 := of_decide_eq_false h4
  have h5 : ¬ (candG i j 0 gs).isEmpty = true := fun z => by
    rw [List.isEmpty_iff_length_eq_zero] at z
    exact h4 (by rw [z]; rfl)
  rw [if_neg h5] at q1 q2
  -- the wanted output
  have soa2 : SqL K H2 oa (vBs (flat gs)) := SqL.of (G12.sub _ _ (G12.up _ _ hoa))
  have he2 := G12.Same _ _ he0
  walk_at "go"
  refine w_cut soa2 (fun p1 hp1 => ?_)
  rw [cut_to (by rw [vBs_length]; exact Nat.le_trans hij hjo)]
  have f1 : (vBs (flat gs)).take i = vBs ((flat gs).take i) := by unfold vBs; rw [List.map_take]
  rw [f1]
  have G3 := G12.trans (Grow.made (r := nobody) (o := .lst (vBs ((flat gs).take i))) G12.sub hp1)
  have a1 : (upd H2 p1 (.lst (vBs ((flat gs).take i)))) p1 = some (.lst (vBs ((flat gs).take i))) := upd_same
  generalize upd H2 p1 (.lst (vBs ((flat gs).take i))) = H3 at G3 a1 ⊢
  have he3 := G3.Same _ _ he0
  have hte3 := G3.sub _ _ (G3.up _ _ hte)
  walk_at "go"
  refine w_cat a1 hte3 (by rw [vBs_length, vBs_length, List.length_take]; omega) (fun p2 hp2 => ?_)
  rw [vBs_app]
  have G4 := G3.trans (Grow.made (r := nobody) (o := .lst (vBs ((flat gs).take i ++ u))) G3.sub hp2)
  have a2 : (upd H3 p2 (.lst (vBs ((flat gs).take i ++ u)))) p2 = some (.lst (vBs ((flat gs).take i ++ u))) := upd_same
  generalize upd H3 p2 (.lst (vBs ((flat gs).take i ++ u))) = H4 at G4 a2 ⊢
  have he4 := G4.Same _ _ he0
  have soa4 : SqL K H4 oa (vBs (flat gs)) := SqL.of (G4.sub _ _ (G4.up _ _ hoa))
  walk_at "go"
  refine w_cut soa4 (fun p3 hp3 => ?_)
  rw [cut_from (by rw [vBs_length]; exact hjo)]
  have f2 : (vBs (flat gs)).drop j = vBs ((flat gs).drop j) := by unfold vBs; rw [List.map_drop]
  rw [f2]
  have G5 := G4.trans (Grow.made (r := nobody) (o := .lst (vBs ((flat gs).drop j))) G4.sub hp3)
  have a3 := same_upd (o := .lst (vBs ((flat gs).drop j))) hp3 _ _ a2
  have a4 : (upd H4 p3 (.lst (vBs ((flat gs).drop j)))) p3 = some (.lst (vBs ((flat gs).drop j))) := upd_same
  generalize upd H4 p3 (.lst (vBs ((flat gs).drop j))) = H5 at G5 a3 a4 ⊢
  refine w_cat a3 a4 (by rw [vBs_length, vBs_length, List.length_append, List.length_take, List.length_drop]; omega) (fun w hw => ?_)
  rw [vBs_app]
  have f3 : (flat gs).take i ++ u ++ (flat gs).drop j = Vaflxk.replaced (flat gs) i j u := by
    unfold Vaflxk.replaced
    rw [List.append_assoc]
  rw [f3]
  have L6 := Grow.laid (r := nobody) (o := .lst (vBs (Vaflxk.replaced (flat gs) i j u))) G5.sub hw
  have G6 := G5.trans L6
  have a6 : (upd S2 w (.lst (vBs (Vaflxk.replaced (flat gs) i j u)))) w = some (.lst (vBs (Vaflxk.replaced (flat gs) i j u))) := upd_same
  have up6 : Same S2 (upd S2 w (.lst (vBs (Vaflxk.replaced (flat gs) i j u)))) := L6.up
  generalize upd S2 w (.lst (vBs (Vaflxk.replaced (flat gs) i j u))) = S6 at G6 a6 up6
  clear L6
  generalize upd H5 w (.lst (vBs (Vaflxk.replaced (flat gs) i j u))) = H6 at G6 ⊢
  -- the narrow edit
  walk_at "go"
  refine ⟨rfl, oa, e, S6, flat gs, i, j, u, rfl, G6.sub, G6.up _ _ hoa, hedit0.mono G6.up, hij, hjo, fun S7 x H7 G7 hx => ?_⟩
  have G67 := G6.trans G7
  have hce := (ends_le (((flat gs).take j).drop i) u).1
  have hol : (((flat gs).take j).drop i).length = j - i := by
    rw [List.length_drop, List.length_take, Nat.min_eq_left hjo]
  rw [hol] at hce
  have hml := mid_len u (Vaflxk.commonEnds (((flat gs).take j).drop i) u)
  have rec_eq : ∀ (g : Oe.G3) (n : Nat) (t : List UInt8), s.record[g.2.1 - 1]? = some t → g.2.2 + g.1.length ≤ t.length → n ≤ i → j ≤ n + g.1.length → Vaflxk.recordWith s.record (spanH (g, n)) (flat gs) i j u = s.record.set (g.2.1 - 1) (t.take (g.2.2 + (i + (Vaflxk.commonEnds (((flat gs).take j).drop i) u).1 - n)) ++ midOf u (Vaflxk.commonEnds (((flat gs).take j).drop i) u) ++ t.drop (g.2.2 + (j - (Vaflxk.commonEnds (((flat gs).take j).drop i) u).2 - n))) := fun g n t z1 z2 z3 z4 => rec_is z1 z2 z3 hij z4 hjo
  generalize midOf u (Vaflxk.commonEnds (((flat gs).take j).drop i) u) = mid at hx hml rec_eq
  generalize Vaflxk.commonEnds (((flat gs).take j).drop i) u = c at hx hce rec_eq
  have hsh7 := G67.Same _ _ hsh0
  walk_at "go"
  generalize hL : (candG i j 0 gs).map (fun h => Vaflxk.recordWith s.record (spanH h) (flat gs) i j u) = L at q1 q2
  refine w_isforl (xs := ws2) (fun k σ H' => ∃ S' v6 v7 v8, σ = [some (.ref sh), some (.ref e), some (.ref oa), some (.ref a), some (.ref w), some (.ref x), v6, v7, v8] ∧ Grow nobody S7 H7 S' H' ∧ ∀ r ∈ L.take k, (Vaflxa.goodRecord r && Vaflxa.given r s.program == some (Vaflxk.replaced (flat gs) i j u)) = false) (SqL.of (G67.sub _ _ (G7.up _ _ (up6 _ _ ha))))
    ⟨S7, none, none, none, rfl, Grow.refl G67.sub, (fun _ z => nomatch z)⟩ (fun k σ H' _ ⟨S', v6, v7, v8, _, G, _⟩ => SqL.of (G.sub _ _ (G.up _ _ (G7.up _ _ (up6 _ _ ha))))) ?_ ?_
  · rintro k y σ H' hk ⟨S', v6, v7, v8, rfl, G, hno⟩
    obtain ⟨⟨g, n⟩, hgn, t1, b, rfl, ht1, hgv⟩ := Paired.get' hp hk
    have upS : Same S2 S' := (up6.trans G7.up).trans G.up
    have GG := G67.trans G
    obtain ⟨m1, m2, m3, m4⟩ := cand_mem gs 0 (g, n) (List.mem_of_getElem? hgn)
    have m3 : n ≤ i := m3
    have m4 : j ≤ n + g.1.length := m4
    obtain ⟨t, hft, hin⟩ := outs_in _ _ _ hgs0 g m1 m2
    have ht40 := good1 t (List.mem_of_getElem? hft)
    have hrk : L[k]? = some (Vaflxk.recordWith s.record (spanH (g, n)) (flat gs) i j u) := by
      rw [← hL, List.getElem?_map, hgn]
      rfl
    rw [rec_eq g n t hft hin m3 m4] at hrk
    refine w_gtup2 (SqT.of (G.sub _ _ (upS _ _ ht1))) ?_
    have hsh8 := GG.Same _ _ hsh0
    walk_at "go"
    refine ⟨rfl, rc, b, x, S', s.record, g, n, i + c.1, j - c.2, mid, t, rfl, G.sub, hrc.mono GG.up, good2, hgv.mono upS, Nat.one_le_iff_ne_zero.mpr m2, hft, ht40, hx.mono G.up, by omega, by omega, by omega, by omega, fun S8 r8 H8 G8 hr8 => ?_⟩
    generalize hr' : s.record.set (g.2.1 - 1) (t.take (g.2.2 + (i + c.1 - n)) ++ mid ++ t.drop (g.2.2 + (j - c.2 - n))) = r' at hr8 hrk
    have hrl : (∀ z ∈ r', z.length ≤ 20000) ∧ r'.length ≤ 20000 := by
      rw [← hr']
      refine ⟨fun z hz => ?_, by rw [List.length_set]; omega⟩
      rcases mem_set hz with hz | rfl
      · have := good1 z hz
        omega
      · simp only [List.length_append, List.length_take, List.length_drop]
        omega
    have GG8 := GG.trans G8
    have hsh9 := GG8.Same _ _ hsh0
    walk_at "go"
    refine ⟨rfl, r8, r', rfl, hr8.mono G8.sub, hrl.1, hrl.2, fun H9 e9 => ?_⟩
    have G9 := Grow.same_ (r := nobody) GG8.sub e9
    have GG9 := GG8.trans G9
    have next : (Vaflxa.goodRecord r' && Vaflxa.given r' s.program == some (Vaflxk.replaced (flat gs) i j u)) = false → ∀ r ∈ L.take (k + 1), (Vaflxa.goodRecord r && Vaflxa.given r s.program == some (Vaflxk.replaced (flat gs) i j u)) = false := fun z r hr => by
      rw [List.take_add_one, hrk] at hr
      rcases List.mem_append.mp hr with h8 | h8
      · exact hno r h8
      · have h8 : r ∈ [r'] := h8
        rw [List.mem_singleton.mp h8]
        exact z
    walk_at "go"
    refine w_if2 (fun h6 => ?_) (fun h6 => ?_)
    · have hsh10 := GG9.Same _ _ hsh0
      walk_at "go"
      refine ⟨rfl, pr, r8, w, S8, s.program, r', Vaflxk.replaced (flat gs) i j u, rfl, G9.sub, hpr.mono GG9.up, hr8, h6, G8.up _ _ (G.up _ _ (G7.up _ _ a6)), fun H10 e10 => ?_⟩
      have G10 := Grow.same_ (r := nobody) GG9.sub e10
      have GG10 := GG9.trans G10
      walk_at "go"
      refine w_if2 (fun h7 => ?_) (fun h7 => ?_)
      · walk_at "go"
        refine q1 r' ?_ S8 r8 H10 GG10 hr8
        rw [find_at hno hrk (by rw [h6, h7]; rfl)]
      · walk_at "go"
        exact ⟨S8, _, _, _, rfl, (G.trans G8).trans (G9.trans G10), next (by rw [h7, Bool.and_false])⟩
    · walk_at "go"
      exact ⟨S8, _, _, _, rfl, (G.trans G8).trans G9, next (by rw [h6, Bool.false_and])⟩
  · rintro σ H' ⟨S', v6, v7, v8, rfl, G, hno⟩
    have hLl : L.length = ws2.length := by rw [← hL, List.length_map, hlen]
    rw [← hLl, List.take_length] at hno
    rw [find_no hno] at q2
    show E (.ref A.c_NotLedBack) none H'
    exact q2 _ _ rfl (Or.inr (Or.inr (Or.inr ⟨rfl, rfl⟩))) H' (G67.trans G).Same
theorem pure_is_led_back (T : Fx K mg A) (vs : List V) (H : Hp) (Q : VK) (E : XK) (h : sp_is_led_back K A vs H Q E) : t_is_led_back K A E { nx := fun _ H' => Q .non H', rt := Q } (start ["shown", "edit"] vs) H := by
  obtain ⟨_, sh, e, S, s, gs, i, j, u, rfl, hS, hshown, hedit, hu, q1, q2, q3⟩ := h
  unfold t_is_led_back
  refine w_seq ?_
  show tDrop (tDefS (sp_led_back K A) (WE (wMix K (fun ecls ed _ H => E ecls ed H) _ _)) (tCons (tVar 0) (tCons (tVar 1) tNil))) _ _ H
  refine w_drop ?_
  refine w_defS ?_
  walk_at "go"
  refine ⟨rfl, sh, e, S, s, gs, i, j, u, rfl, hS, hshown, hedit, hu, fun r hr S' a H' G _ => ?_, fun c C hc hC H' e' => ?_⟩
  · walk_at "go"
    exact q1 r hr H' G.Same
  · rcases hC with ⟨rfl, rfl⟩ | ⟨rfl, rfl⟩ | ⟨rfl, rfl⟩ | ⟨rfl, rfl⟩
    · exact mix_two T.xm_NoSuchPlace_NoPart T.xm_NoSuchPlace_NotLedBack (fun z => nomatch z) (fun _ => q3 _ _ hc (Or.inl ⟨rfl, rfl⟩) (by omega) H' e')
    · exact mix_two T.xm_NoSuchText_NoPart T.xm_NoSuchText_NotLedBack (fun z => nomatch z) (fun _ => q3 _ _ hc (Or.inr (Or.inl ⟨rfl, rfl⟩)) (by omega) H' e')
    · exact mix_two T.xm_NoPart_NoPart T.xm_NoPart_NotLedBack (fun _ x hx => w_ret (w_c (q2 _ hc (Or.inl rfl) H' e'))) (fun z => nomatch z)
    · exact mix_two T.xm_NotLedBack_NoPart T.xm_NotLedBack_NotLedBack (fun _ x hx => w_ret (w_c (q2 _ hc (Or.inr rfl) H' e'))) (fun z => nomatch z)
end
section
variable {K : PySem.W.Frag} {mg : Str → Option Value} {A : Ads}
theorem pure_whole_edit (T : Fx K mg A) (vs : List V) (H : Hp) (Q : VK) (E : XK) (h : sp_whole_edit K A vs H Q E) : t_whole_edit K A E { nx := fun _ H' => Q .non H', rt := Q } (start ["shown", "text"] vs) H := by
  obtain ⟨_, sh, t, S, s, gs, o, rfl, hS, ⟨dx, pr, rc, ga, oa, ws, hsh, _, _, _, _, hga, hgs, hoa⟩, ht, q⟩ := h
  have hsh0 := hS _ _ hsh
  have soa : SqL K H oa (vBs (flat gs)) := SqL.of (hS _ _ hoa)
  unfold t_whole_edit
  walk_at "go"
  rw [vBs_length]
  refine w_new rfl (fun x d hx hd hne => ?_)
  have G := Grow.inst (r := nobody) (C := A.c_Edit) (fs := fo_Edit [.int 0, .int ((flat gs).length : Nat), .ref t]) hS hx hd hne
  walk_at "go"
  refine ⟨rfl, oa, x, _, flat gs, 0, (flat gs).length, o, rfl, G.sub, G.up _ _ hoa, ⟨d, t, upd_same, G.up _ _ ht⟩, Nat.zero_le _, Nat.le_refl _, fun S' y H' G' hy => ?_⟩
  rw [List.take_length, List.drop_zero, Nat.zero_add] at hy
  exact q S' y H' (G.trans G') hy
/-- the bytes that may stand in a byte's place, up to one -/
def okAt (s : Vaflxk.State) (gs : List G3) (i : Int) (c : UInt8) : Bool := match outc s gs i (i + 1) [c] with
  | .ok _ => true
  | .error _ => false
def byteN (n : Nat) : UInt8 := UInt8.ofNat (32 + n)
theorem byteN_nat {n : Nat} (h : n < 95) : (byteN n).toNat = 32 + n := by
  unfold byteN
  rw [UInt8.toNat_ofNat']
  omega
theorem byteN_good {n : Nat} (h : n < 95) : Vaflxa.goodText 240 [byteN n] = true := by
  have e : Vaflxa.isByte (byteN n) = true := by
    unfold Vaflxa.isByte
    rw [Bool.and_eq_true, decide_eq_true_eq, decide_eq_true_eq, UInt8.le_iff_toNat_le, UInt8.le_iff_toNat_le, byteN_nat h]
    show 32 ≤ 32 + n ∧ 32 + n ≤ 126
    omega
  unfold Vaflxa.goodText
  rw [List.all_cons, e]
  rfl
theorem pure_free_bytes (T : Fx K mg A) (vs : List V) (H : Hp) (Q : VK) (E : XK) (h : sp_free_bytes K A vs H Q E) : t_free_bytes K A E { nx := fun _ H' => Q .non H', rt := Q } (start ["shown", "place", "found", "byte"] vs) H := by
  obtain ⟨_, sh, S, s, gs, i, rfl, hS, hshown, q1, q2⟩ := h
  have hgs0 : outsFrom s.record 0 s.program = .ok gs := by
    obtain ⟨dx, pr, rc, ga, oa, ws, hsh, _, _, _, h5, _⟩ := hshown
    exact h5
  have hcase : ∀ n, n < 95 → ∀ c, outc s gs i (i + 1) [byteN n] = .error c → (c = -2 ∧ (i < 0 ∨ ((flat gs).length : Int) ≤ i)) ∨ ¬ (i < 0 ∨ ((flat gs).length : Int) ≤ i) ∧ (c = -3 ∨ c = -9) := fun n hn c hc => by
    rw [outc_is hgs0] at hc
    split at hc
    · injection hc with hc
      refine Or.inl ⟨hc.symm, ?_⟩
      omega
    · rw [if_neg (by rw [byteN_good hn]; exact fun z => nomatch z)] at hc
      refine Or.inr ⟨by omega, ?_⟩
      split at hc
      · injection hc with hc
        exact Or.inl hc.symm
      · split at hc
        · injection hc with hc
          exact Or.inr hc.symm
        · cases hc
  have hok : ∀ n, n < 95 → ∀ r, outc s gs i (i + 1) [byteN n] = .ok r → ¬ (i < 0 ∨ ((flat gs).length : Int) ≤ i) := fun n hn r hr z => by
    rw [outc_is hgs0, if_pos (by omega)] at hr
    cases hr
  unfold t_free_bytes
  walk_at "go"
  refine w_obj (show 0 ≤ 1000000 by decide) (fun f hf => ?_)
  have G0 : Grow nobody S H S (upd H f (.lst [])) := Grow.made hS hf
  walk_at "go"
  refine w_forr2 ?_
  walk_at "go"
  refine w_isforr2 (n := 95) rfl (by decide) (fun m σ H' => ∃ S' v3, σ = [some (.ref sh), some (.int i), some (.ref f), v3] ∧ Grow nobody S H S' H' ∧ H' f = some (.lst (vBs (((List.range m).map byteN).filter (okAt s gs i)))) ∧ S' f = none ∧ (m = 0 ∨ ¬ (i < 0 ∨ ((flat gs).length : Int) ≤ i)))
    ⟨S, none, rfl, G0, upd_same, hS.free hf, Or.inl rfl⟩ ?_ ?_
  · rintro m σ H' hm ⟨S', v3, rfl, G, hfl, sf, _⟩
    have eb : V.int (32 + (m : Nat)) = vB (byteN m) := by
      unfold vB
      rw [byteN_nat hm]
      rfl
    rw [eb]
    walk_at "go"
    refine w_obj (show 1 ≤ 1000000 by decide) (fun l hl => ?_)
    have L1 := Grow.laid (r := nobody) (o := .lst [vB (byteN m)]) G.sub hl
    walk_at "go"
    refine w_new rfl (fun x d hx hd hne => ?_)
    have L2 := Grow.inst (r := nobody) (C := A.c_Edit) (fs := fo_Edit [.int i, .int (i + 1), .ref l]) L1.sub hx hd hne
    have G2 := G.trans (L1.trans L2)
    have hf2 := (L1.trans L2).Same _ _ hfl
    have sf2 := (L1.trans L2).out (by rw [hfl]; exact fun z => nomatch z) sf
    have hed : EditAt A (upd (upd (upd S' l (.lst [vB (byteN m)])) d (.own x)) x (.ins A.c_Edit d (fo_Edit [.int i, .int (i + 1), .ref l]))) x i (i + 1) [byteN m] := ⟨d, l, upd_same, L2.up _ _ upd_same⟩
    generalize (upd (upd (upd S' l (.lst [vB (byteN m)])) d (.own x)) x (.ins A.c_Edit d (fo_Edit [.int i, .int (i + 1), .ref l]))) = S2 at G2 sf2 hed
    clear L1 L2
    generalize (upd (upd (upd H' l (.lst [vB (byteN m)])) d (.own x)) x (.ins A.c_Edit d (fo_Edit [.int i, .int (i + 1), .ref l]))) = H2 at G2 hf2 ⊢
    walk_at "go"
    refine ⟨rfl, sh, x, S2, s, gs, i, i + 1, [byteN m], rfl, G2.sub, hshown.mono G2.up, hed, by show 1 ≤ 20000; decide, fun r hr H3 e3 => ?_, fun c hc hc39 H3 e3 => ?_, fun c C hc hC hn H3 e3 => ?_⟩
    · have G3 := G2.trans (Grow.same_ (r := nobody) G2.sub e3)
      have hf3 := e3 _ _ hf2
      walk_at "go"
      refine w_app hf3 ?_ ?_
      · rw [vBs_length]
        have := List.length_filter_le (okAt s gs i) ((List.range m).map byteN)
        rw [List.length_map, List.length_range] at this
        exact Nat.lt_of_le_of_lt this (Nat.lt_of_lt_of_le hm (by decide))
      · refine ⟨S2, _, rfl, G3.put_new hf (by rw [hf3]; exact fun z => nomatch z) sf2, ?_, sf2, Or.inr (hok m hm r hr)⟩
        rw [upd_same, List.range_succ, List.map_append, List.filter_append]
        have eo : okAt s gs i (byteN m) = true := by
          unfold okAt
          rw [hr]
        show _ = some (HO.lst (vBs (_ ++ [byteN m].filter (okAt s gs i))))
        rw [List.filter_cons_of_pos eo, List.filter_nil, ← vBs_app]
        rfl
    · have G3 := G2.trans (Grow.same_ (r := nobody) G2.sub e3)
      have hf3 := e3 _ _ hf2
      walk_at "go"
      refine ⟨S2, _, rfl, G3, ?_, sf2, Or.inr ?_⟩
      · rw [hf3, List.range_succ, List.map_append, List.filter_append]
        have eo : okAt s gs i (byteN m) = false := by
          unfold okAt
          rw [hc]
        show _ = some (HO.lst (vBs (_ ++ [byteN m].filter (okAt s gs i))))
        rw [List.filter_cons_of_neg (by rw [eo]; exact Bool.false_ne_true), List.filter_nil, List.append_nil]
      · rcases hcase m hm c hc with ⟨z, _⟩ | ⟨z, _⟩
        · omega
        · exact z
    · rcases hcase m hm c hc with ⟨z, hb⟩ | ⟨_, z⟩
      · have eC : C = A.c_NoSuchPlace := by
          rcases hC with ⟨_, y⟩ | ⟨y, _⟩ | ⟨y, _⟩ | ⟨y, _⟩
          · exact y
          · omega
          · omega
          · omega
        rw [eC]
        exact q1 hb H3 (G2.Same.trans e3)
      · exact absurd z hn
  · rintro σ H' ⟨S', v3, rfl, G, hfl, sf, hnb⟩
    have hnb : ¬ (i < 0 ∨ ((flat gs).length : Int) ≤ i) := by
      rcases hnb with z | z
      · cases z
      · exact z
    walk_at "go"
    refine q2 hnb _ f H' (G.fix hf hfl) ?_
    rw [upd_same]
    congr 3
    unfold Vaflxk.freeAt
    have ei : Vaflxk.nat i.toNat = i := by
      show ((i.toNat : Nat) : Int) = i
      omega
    have ei1 : Vaflxk.nat (i.toNat + 1) = i + 1 := by
      show ((i.toNat + 1 : Nat) : Int) = i + 1
      omega
    rw [ei, ei1]
    rfl
theorem Grow.late {S H S1 H1 S2 H2 : Hp} {p : Addr} (a : Grow nobody S H S1 H1) (b : Grow (fun x => x = p) S1 H1 S2 H2) (hp : H p = none) : Grow nobody S H S2 H2 := by
  refine ⟨fun q u e _ => b.same q u (a.Same q u e) (ne_of_none e hp), fun q e => a.stay q (b.stay q e), a.up.trans b.up, b.sub, fun q e => ?_⟩
  rcases b.fresh q e with h | h
  · exact a.fresh q h
  · exact Or.inr (a.stay q h)
theorem pure_Shown_init (T : Fx K mg A) (vs : List V) (H : Hp) (Q : VK) (E : XK) (h : sp_Shown_init K A vs H Q E) : t_Shown_init K A E { nx := fun _ H' => Q .non H', rt := Q } (start ["self", "program", "record"] vs) H := by
  obtain ⟨_, p, dx, pr, rc, S, s, rfl, hp, hS, sp, hpr, hrc, hgood, q1, q2⟩ := h
  obtain ⟨good1, good2⟩ := good_small hgood
  obtain ⟨s1, s2⟩ := prog_short hpr
  unfold t_Shown_init
  refine w_seq (w_sfld (w_var rfl (w_var rfl (w_put (fs' := [("program", .ref pr)]) hp T.cl_Shown T.n_Shown_program (by show 0 < 1000; decide) rfl ?_))))
  refine w_seq (w_sfld (w_var rfl (w_var rfl (w_put (fs' := [("program", .ref pr), ("record", .ref rc)]) upd_same T.cl_Shown T.n_Shown_record (by show 1 < 1000; decide) ((pf_past (by decide +kernel)).trans rfl) ?_))))
  rw [upd_upd]
  have G1 : Grow (fun x => x = p) S H S (upd H p (.ins A.c_Shown dx [("program", .ref pr), ("record", .ref rc)])) := Grow.put hS rfl (by rw [hp]; exact fun z => nomatch z) sp
  have hp1 : (upd H p (.ins A.c_Shown dx [("program", .ref pr), ("record", .ref rc)])) p = some (.ins A.c_Shown dx [("program", .ref pr), ("record", .ref rc)]) := upd_same
  generalize upd H p (.ins A.c_Shown dx [("program", .ref pr), ("record", .ref rc)]) = H1 at G1 hp1 ⊢
  walk_at "go"
  refine ⟨rfl, pr, s.program, rc, s.record, S, rfl, G1.sub, hpr, hrc, fun t ht => Nat.le_trans (good1 t ht) (by decide), Nat.le_trans good2 (by decide), fun i hi H' d e2 hxd => q1 i hi H' d (fun b o e hb => e2 _ _ (G1.same b o e hb)) hxd, fun gs hgs S2 a H2 ws G2 ha hg => ?_⟩
  obtain ⟨l1, l2⟩ := outs_len (fun t ht => Nat.le_trans (good1 t ht) (by decide)) _ _ _ s1 hgs
  have hp2 := G2.Same _ _ hp1
  have sp2 : S2 p = none := G2.out (by rw [hp1]; exact fun z => nomatch z) sp
  refine w_var rfl (w_put (fs' := [("program", .ref pr), ("record", .ref rc), ("givens", .ref a)]) hp2 T.cl_Shown T.n_Shown_givens (by show 2 < 1000; decide) ((pf_past (by decide +kernel)).trans (cons_eq ((pf_past (by decide +kernel)).trans rfl))) ?_)
  have G3 := (G1.trans (G2.mono fun _ z => z.elim)).trans (Grow.put (r := fun x => x = p) (o := .ins A.c_Shown dx [("program", .ref pr), ("record", .ref rc), ("givens", .ref a)]) G2.sub rfl (by rw [hp2]; exact fun z => nomatch z) sp2)
  have hp3 : (upd H2 p (.ins A.c_Shown dx [("program", .ref pr), ("record", .ref rc), ("givens", .ref a)])) p = some (.ins A.c_Shown dx [("program", .ref pr), ("record", .ref rc), ("givens", .ref a)]) := upd_same
  generalize upd H2 p (.ins A.c_Shown dx [("program", .ref pr), ("record", .ref rc), ("givens", .ref a)]) = H3 at G3 hp3 ⊢
  refine w_sfld (w_def (w_cons (w_fld (w_var rfl (w_get (v := .ref a) hp3 T.cl_Shown T.n_Shown_givens ((lk_past (by decide +kernel)).trans ((lk_past (by decide +kernel)).trans lk_here)) (w_nil ?_))))))
  refine ⟨rfl, a, ws, gs, rfl, SqL.of (G3.sub _ _ ha), Paired.mapP hg fun _ _ z => z.mono G3.sub, l1, by omega, fun oa hoa => ?_⟩
  have npo : p ≠ oa := ne_of_none hp3 hoa
  have L4 := Grow.laid (r := fun x => x = p) (o := .lst (vBs (flat gs))) G3.sub hoa
  have G4 := G3.trans L4
  have hp4 := same_upd (o := .lst (vBs (flat gs))) hoa _ _ hp3
  have sp4 : (upd S2 oa (.lst (vBs (flat gs)))) p = none := by
    rw [upd_ne npo]
    exact sp2
  refine w_var rfl (w_put (fs' := fs_Shown (.ref pr) (.ref rc) (.ref a) (.ref oa)) hp4 T.cl_Shown T.n_Shown_output (by show 3 < 1000; decide) (by unfold fs_Shown; exact (pf_past (by decide +kernel)).trans (cons_eq ((pf_past (by decide +kernel)).trans (cons_eq ((pf_past (by decide +kernel)).trans rfl))))) ?_)
  have G5 := G4.trans (Grow.put (r := fun x => x = p) (o := .ins A.c_Shown dx (fs_Shown (.ref pr) (.ref rc) (.ref a) (.ref oa))) G4.sub rfl (by rw [hp4]; exact fun z => nomatch z) sp4)
  exact q2 gs hgs _ _ a oa ws G5 upd_same (L4.up _ _ ha) (Paired.mapP hg fun _ _ z => z.mono L4.up) upd_same
/-- Shown(program, record), made -/
theorem made_shown {S H : Hp} {pr rc : Addr} {s : Vaflxk.State} {E : XK} {Q : VK} (hS : L2.Same S H) (hpr : ProgAt K A S pr s.program) (hrc : RecAt S rc s.record) (hgood : Vaflxa.goodRecord s.record = true)
    (q1 : ∀ i, outsFrom s.record 0 s.program = .error i → ∀ H' d, L2.Same H H' → H' d = some (.xd (PySem.OeX.fo_NoOutput [.int (i : Nat)])) → E (.ref A.c_NoOutput) (some d) H')
    (q2 : ∀ gs, outsFrom s.record 0 s.program = .ok gs → ∀ S' H' x, Grow nobody S H S' H' → ShownAt K A S' x s gs → Q (.ref x) H') : IsMade A.c_Shown (sp_Shown_init K A) E [.ref pr, .ref rc] H Q := by
  intro x dx hx hdx hne
  have hx1 : (upd H dx (.own x)) x = none := by rw [upd_ne (Ne.symm hne)]; exact hx
  have G0 : Grow nobody S H S (upd (upd H dx (.own x)) x (.ins A.c_Shown dx [])) := (Grow.made hS hdx).trans (Grow.made (hS.trans (same_upd hdx)) hx1)
  have sx : S x = none := hS.free hx
  refine ⟨rfl, x, dx, pr, rc, S, s, rfl, upd_same, G0.sub, sx, hpr, hrc, hgood, fun i hi H' d e hd => q1 i hi H' d (fun b o eb => e b o (G0.Same _ _ eb) (ne_of_none eb hx)) hd, fun gs hgs S' H' ga oa ws G hxo hga hws hoa => ⟨rfl, ?_⟩⟩
  have G1 := G0.late G hx
  have sx' : S' x = none := by
    cases e : S' x with
    | none => rfl
    | some o =>
      rcases G.fresh x (by rw [e]; exact fun z => nomatch z) with z | z
      · exact absurd sx z
      · rw [upd_same] at z
        cases z
  have up := same_upd (o := .ins A.c_Shown dx (fs_Shown (.ref pr) (.ref rc) (.ref ga) (.ref oa))) sx'
  exact q2 gs hgs _ H' x (G1.fix hx hxo) ⟨dx, pr, rc, ga, oa, ws, upd_same, (hpr.mono G1.up).mono up, (hrc.mono G1.up).mono up, hgood, hgs, up _ _ hga, Paired.mapP hws fun _ _ z => z.mono up, up _ _ hoa⟩
end
section
variable {K : PySem.W.Frag} {mg : Str → Option Value} {A : Ads}
theorem out_ok {s : Vaflxk.State} {gs : List G3} (h : outsFrom s.record 0 s.program = .ok gs) : Vaflxk.outOf s = .ok (flat gs, (Vaflxk.spansOf s.record s.program).getD []) := by
  unfold Vaflxk.outOf
  rw [run_ok h]
  rfl
theorem out_no {s : Vaflxk.State} {i : Nat} (h : outsFrom s.record 0 s.program = .error i) : Vaflxk.outOf s = .error i := by
  unfold Vaflxk.outOf
  rw [run_err h]
theorem outc_good {s : Vaflxk.State} {gs : List G3} {i j : Int} {u : List UInt8} {r : Vaflxk.Record} (hg : outsFrom s.record 0 s.program = .ok gs) (h : outc s gs i j u = .ok r) : Vaflxa.goodRecord r = true := by
  rw [outc_is hg] at h
  split at h
  · cases h
  · split at h
    · cases h
    · split at h
      · cases h
      · split at h
        · cases h
        · rename_i r' e
          injection h with h
          subst h
          have := List.find?_some e
          rw [Bool.and_eq_true] at this
          exact this.1
theorem outc_err {s : Vaflxk.State} {gs : List G3} {i j : Int} {u : List UInt8} {c : Int} (hg : outsFrom s.record 0 s.program = .ok gs) (h : outc s gs i j u = .error c) : ∃ C, ErrIs A c C := by
  rw [outc_is hg] at h
  split at h
  · injection h with h
    exact ⟨_, Or.inl ⟨h.symm, rfl⟩⟩
  · split at h
    · injection h with h
      exact ⟨_, Or.inr (Or.inl ⟨h.symm, rfl⟩)⟩
    · split at h
      · injection h with h
        exact ⟨_, Or.inr (Or.inr (Or.inl ⟨h.symm, rfl⟩))⟩
      · split at h
        · injection h with h
          exact ⟨_, Or.inr (Or.inr (Or.inr ⟨h.symm, rfl⟩))⟩
        · cases h
theorem ask_is {s : Vaflxk.State} (c : Vaflxk.Call) (h : Vaflxk.step s c = (s, Vaflxk.answerOf s c)) : Vaflxk.step s c = (s, Vaflxk.answerOf s c) := h
/-- what the calls do, by the outcome -/
theorem step_no {s : Vaflxk.State} {i : Nat} (h : outsFrom s.record 0 s.program = .error i) : (∀ f z, Vaflxk.step s (.spread f z) = (s, [1, Vaflxk.nat i])) ∧ (∀ a b u, Vaflxk.step s (.could a b u) = (s, [1, Vaflxk.nat i])) ∧ (∀ a b u, Vaflxk.doEdit s a b u = (s, [1, Vaflxk.nat i])) ∧ (∀ o, Vaflxk.doWhole s o = (s, [1, Vaflxk.nat i])) ∧ (∀ z, Vaflxk.step s (.free z) = (s, [1, Vaflxk.nat i])) := by
  have e := out_no h
  refine ⟨fun f z => ?_, fun a b u => ?_, fun a b u => ?_, fun o => ?_, fun z => ?_⟩
  · rw [ask_is _ rfl]
    unfold Vaflxk.answerOf Vaflxk.withOut
    rw [e]
  · rw [ask_is _ rfl]
    unfold Vaflxk.answerOf Vaflxk.withOut
    rw [e]
  · unfold Vaflxk.doEdit
    rw [e]
  · unfold Vaflxk.doWhole
    rw [e]
  · rw [ask_is _ rfl]
    unfold Vaflxk.answerOf Vaflxk.withOut
    rw [e]
theorem edit_ok {s : Vaflxk.State} {gs : List G3} {i j : Int} {u : List UInt8} {r : Vaflxk.Record} (hg : outsFrom s.record 0 s.program = .ok gs) (h : outc s gs i j u = .ok r) : Vaflxk.doEdit s i j u = (⟨s.program, r, Vaflxk.pastWith s.past s.record⟩, [0]) := by
  unfold Vaflxk.doEdit
  rw [out_ok hg]
  dsimp only
  have h : Vaflxk.outcome s (flat gs) ((Vaflxk.spansOf s.record s.program).getD []) i j u = .ok r := h
  rw [h]
theorem edit_no {s : Vaflxk.State} {gs : List G3} {i j : Int} {u : List UInt8} {c : Int} (hg : outsFrom s.record 0 s.program = .ok gs) (h : outc s gs i j u = .error c) : Vaflxk.doEdit s i j u = (s, [c]) := by
  unfold Vaflxk.doEdit
  rw [out_ok hg]
  dsimp only
  have h : Vaflxk.outcome s (flat gs) ((Vaflxk.spansOf s.record s.program).getD []) i j u = .error c := h
  rw [h]
theorem could_ok {s : Vaflxk.State} {gs : List G3} {i j : Int} {u : List UInt8} {r : Vaflxk.Record} (hg : outsFrom s.record 0 s.program = .ok gs) (h : outc s gs i j u = .ok r) : Vaflxk.step s (.could i j u) = (s, 0 :: Vaflxk.nat r.length :: r.flatMap Vaflxk.counted) := by
  rw [ask_is _ rfl]
  unfold Vaflxk.answerOf Vaflxk.withOut
  rw [out_ok hg]
  dsimp only
  have h : Vaflxk.outcome s (flat gs) ((Vaflxk.spansOf s.record s.program).getD []) i j u = .ok r := h
  rw [h]
theorem could_no {s : Vaflxk.State} {gs : List G3} {i j : Int} {u : List UInt8} {c : Int} (hg : outsFrom s.record 0 s.program = .ok gs) (h : outc s gs i j u = .error c) : Vaflxk.step s (.could i j u) = (s, [c]) := by
  rw [ask_is _ rfl]
  unfold Vaflxk.answerOf Vaflxk.withOut
  rw [out_ok hg]
  dsimp only
  have h : Vaflxk.outcome s (flat gs) ((Vaflxk.spansOf s.record s.program).getD []) i j u = .error c := h
  rw [h]
theorem numbers_vI (u : List UInt8) : vI (Vaflxk.numbers u) = vBs u := by
  unfold vI
  exact numbers_map u
theorem pure_edited_record (T : Fx K mg A) (vs : List V) (H : Hp) (Q : VK) (E : XK) (h : sp_edited_record K A vs H Q E) : t_edited_record K A E { nx := fun _ H' => Q .non H', rt := Q } (start ["desk", "call", "edit"] vs) H := by
  obtain ⟨_, dk, dx, pa, ca, S, s, i, j, u, rfl, D, ⟨dc, an, ar, kd, hca, han, har⟩, hu, q1, q2⟩ := h
  obtain ⟨pr, rc, ps, hd, hpa, hpr, hrc, hps⟩ := D.ex
  have hc := D.hS _ _ hca
  have sn : SqL K H an (vI [i, j]) := SqL.of (D.hS _ _ han)
  rw [numbers_vI] at har
  unfold t_edited_record
  walk_at "go"
  refine w_ixL sn (at_of (j := 0) rfl rfl) ?_
  walk_at "go"
  refine w_ixL sn (at_of (j := 1) rfl rfl) ?_
  walk_at "go"
  refine w_new rfl (fun x d hx hdd hne => ?_)
  have G1 := Grow.inst (r := nobody) (C := A.c_Edit) (fs := fo_Edit [.int i, .int j, .ref ar]) D.hS hx hdd hne
  have hed : EditAt A (upd (upd S d (.own x)) x (.ins A.c_Edit d (fo_Edit [.int i, .int j, .ref ar]))) x i j u := ⟨d, ar, upd_same, G1.up _ _ har⟩
  generalize (upd (upd S d (.own x)) x (.ins A.c_Edit d (fo_Edit [.int i, .int j, .ref ar]))) = S1 at G1 hed
  generalize (upd (upd H d (.own x)) x (.ins A.c_Edit d (fo_Edit [.int i, .int j, .ref ar]))) = H1 at G1 ⊢
  have hd1 := G1.Same _ _ hd
  walk_at "go"
  refine w_mk ?_
  walk_at "go"
  refine made_shown G1.sub (hpr.mono G1.up) (hrc.mono G1.up) D.ok.good (fun n hn H' d' e' hd' => q1 n hn H' d' (G1.Same.trans e') hd') (fun gs hgs S2 H2 y G2 hy => ?_)
  obtain ⟨q3, q4⟩ := q2 gs hgs
  have G12 := G1.trans G2
  walk_at "go"
  exact ⟨rfl, y, x, S2, s, gs, i, j, u, rfl, G2.sub, hy, hed.mono G2.up, hu, fun r hr S' a H' G hra => q3 r hr S' a H' (G12.trans G) hra, fun c C hc hC H' e' => q4 c C hc hC H' (G12.Same.trans e')⟩
theorem Paired.uncons {α β : Type} {F : α → β → Prop} {l : List α} {m : List β} (h : Paired F l m) (n : 0 < m.length) : ∃ x l' y m', l = x :: l' ∧ m = y :: m' ∧ F x y ∧ Paired F l' m' := by
  cases h with
  | nil => exact absurd n (Nat.lt_irrefl 0)
  | cons r t => exact ⟨_, _, _, _, rfl, rfl, r, t⟩
theorem pure_change_record (T : Fx K mg A) (vs : List V) (H : Hp) (Q : VK) (E : XK) (h : sp_change_record K A vs H Q E) : t_change_record K A E { nx := fun _ H' => Q .non H', rt := Q } (start ["desk", "record"] vs) H := by
  obtain ⟨_, dk, dx, pa, rc', S, s, r, rfl, D, hr, hgood, q⟩ := h
  obtain ⟨pr, rc, ps, hd, hpa, hpr, hrc, hps⟩ := D.ex
  have hlen : ps.length = s.past.length := Paired.len hps
  have h50 := D.ok.fifty
  have nd : dk ≠ pa := fun z => by rw [z, hpa] at hd; cases hd
  unfold t_change_record
  walk_at "go"
  refine w_app hpa (Nat.lt_of_lt_of_le (show ps.length < 1000 by omega) (by decide)) ?_
  have G1 : Grow (two dk pa) S H S (upd H pa (.lst (ps ++ [.ref rc]))) := Grow.put D.hS (Or.inr rfl) (by rw [hpa]; exact fun z => nomatch z) D.np
  have hd1 : (upd H pa (.lst (ps ++ [.ref rc]))) dk = some (.ins A.c_Desk dx (fs_Desk (.ref pr) (.ref rc) (.ref pa))) := by rw [upd_ne nd]; exact hd
  have hp1 : (upd H pa (.lst (ps ++ [.ref rc]))) pa = some (.lst (ps ++ [.ref rc])) := upd_same
  have sq1 : SqL K (upd H pa (.lst (ps ++ [.ref rc]))) pa (ps ++ [.ref rc]) := SqL.of hp1
  have ends : ∀ (ps' : List V) (past' : List Vaflxk.Record) (H2 : Hp), Grow (two dk pa) S H S H2 → H2 dk = some (.ins A.c_Desk dx (fs_Desk (.ref pr) (.ref rc) (.ref pa))) → H2 pa = some (.lst ps') → Paired (IsRec S) ps' past' → Vaflxk.pastWith s.past s.record = past' → (∀ x ∈ past', x ∈ s.past ∨ x = s.record) → past'.length ≤ 50 →
      Q .non (upd H2 dk (.ins A.c_Desk dx (fs_Desk (.ref pr) (.ref rc') (.ref pa)))) := by
    intro ps' past' H2 G2 hd2 hp2 hps' e1 hin h5
    have G3 := G2.trans (Grow.put (r := two dk pa) (o := .ins A.c_Desk dx (fs_Desk (.ref pr) (.ref rc') (.ref pa))) G2.sub (Or.inl rfl) (by rw [hd2]; exact fun z => nomatch z) D.nd)
    refine q _ G3 ?_
    rw [e1]
    refine ⟨⟨pr, rc', ps', upd_same, by rw [upd_ne (Ne.symm nd)]; exact hp2, hpr, hr, hps'⟩, G3.sub, D.nd, D.np, ⟨hgood, fun x hx => ?_, h5⟩⟩
    rcases hin x hx with z | rfl
    · exact D.ok.past x z
    · exact D.ok.good
  generalize upd H pa (.lst (ps ++ [.ref rc])) = H1 at G1 hd1 hp1 sq1 ⊢
  have hps1 : Paired (IsRec S) (ps ++ [.ref rc]) (s.past ++ [s.record]) := Paired.snoc hps ⟨rc, rfl, hrc⟩
  walk_at "go"
  rw [List.length_append, List.length_singleton, hlen]
  refine w_if2 (fun h1 => ?_) (fun h1 => ?_)
  · have h1 : (50 : Int) < ((s.past.length + 1 : Nat) : Int) := of_decide_eq_true h1
    obtain ⟨v, ps', y, past', rfl, e, hv, t⟩ := Paired.uncons hps (by omega)
    rw [e] at h50 h1 hps1
    rw [List.length_cons] at h50 h1
    walk_at "go"
    rw [List.cons_append] at hp1
    refine w_popAt (x := v) (xs := ps' ++ [.ref rc]) hp1 ?_
    have G2 := G1.trans (Grow.put (r := two dk pa) (o := .lst (ps' ++ [.ref rc])) G1.sub (Or.inr rfl) (by rw [hp1]; exact fun z => nomatch z) D.np)
    have hd2 : (upd H1 pa (.lst (ps' ++ [.ref rc]))) dk = some (.ins A.c_Desk dx (fs_Desk (.ref pr) (.ref rc) (.ref pa))) := by rw [upd_ne nd]; exact hd1
    have en := ends (ps' ++ [.ref rc]) (past' ++ [s.record]) _ G2 hd2 upd_same (Paired.snoc t ⟨rc, rfl, hrc⟩) ?_ ?_ ?_
    · walk_at "go"
      exact en
    · unfold Vaflxk.pastWith
      rw [e, if_pos (show Vaflxk.MOST_PAST ≤ (y :: past').length by show 50 ≤ past'.length + 1; omega)]
      have e3 : (y :: past').length + 1 - Vaflxk.MOST_PAST = 1 := by
        show past'.length + 1 + 1 - 50 = 1
        omega
      rw [e3]
      rfl
    · intro x hx
      rcases List.mem_append.mp hx with z | z
      · exact Or.inl (by rw [e]; exact List.mem_cons_of_mem _ z)
      · exact Or.inr (List.mem_singleton.mp z)
    · rw [List.length_append, List.length_singleton]
      omega
  · have h1 : ¬ (50 : Int) < ((s.past.length + 1 : Nat) : Int) := of_decide_eq_false h1
    have en := ends _ _ H1 G1 hd1 hp1 hps1 ?_ ?_ ?_
    · walk_at "go"
      exact en
    · unfold Vaflxk.pastWith
      rw [if_neg (show ¬ Vaflxk.MOST_PAST ≤ s.past.length by show ¬ 50 ≤ s.past.length; omega)]
    · intro x hx
      rcases List.mem_append.mp hx with z | z
      · exact Or.inl z
      · exact Or.inr (List.mem_singleton.mp z)
    · rw [List.length_append, List.length_singleton]
      omega
theorem pure_answer_could (T : Fx K mg A) (vs : List V) (H : Hp) (Q : VK) (E : XK) (h : sp_answer_could K A vs H Q E) : t_answer_could K A E { nx := fun _ H' => Q .non H', rt := Q } (start ["desk", "call"] vs) H := by
  obtain ⟨_, dk, dx, pa, ca, s, k, S, rfl, D, hk, qE, q⟩ := h
  cases k with
  | could i j u =>
    obtain ⟨hcall, hu⟩ := hk
    unfold t_answer_could
    walk_at "go"
    refine w_obj (show 1 ≤ 1000000 by decide) (fun an han => ?_)
    have e1 := same_upd (o := .lst [.int 0]) han
    have G1 : Grow nobody S H S (upd H an (.lst [.int 0])) := Grow.made D.hS han
    have hn1 : (upd H an (.lst [.int 0])) an = some (.lst [.int 0]) := upd_same
    generalize upd H an (.lst [.int 0]) = H1 at e1 G1 hn1 ⊢
    walk_at "go"
    refine ⟨rfl, dk, dx, pa, ca, S, s, i, j, u, rfl, D.keep e1, hcall, hu, fun n hn H' d e hd => qE _ _ H' (e1.trans e) (Or.inl ⟨n, d, rfl, rfl, hd, (step_no hn).2.1 i j u⟩), fun gs hgs => ⟨fun r hr S2 a H2 G2 hra => ?_, fun c C hc hC H' e => qE _ _ H' (e1.trans e) (Or.inr ⟨c, hC, rfl, could_no hgs hc⟩)⟩⟩
    obtain ⟨g1, g2⟩ := good_small (outc_good hgs hr)
    walk_at "go"
    refine ⟨rfl, a, r, rfl, hra.mono G2.sub, fun t ht => Nat.le_trans (g1 t ht) (by decide), Nat.le_trans g2 (by decide), fun p hp => ?_⟩
    have hn2 := same_upd (o := .lst ((Vaflxk.nat r.length :: r.flatMap Vaflxk.counted).map V.int)) hp _ _ (G2.Same _ _ hn1)
    have G3 := (G1.trans G2).trans (Grow.made (o := .lst ((Vaflxk.nat r.length :: r.flatMap Vaflxk.counted).map V.int)) G2.sub hp)
    have htl := told_len r fun t ht => Nat.le_trans (g1 t ht) (by decide)
    refine w_cat hn2 upd_same (by rw [List.length_singleton, List.length_map, List.length_cons]; omega) (fun b hb => ?_)
    exact answer_new (l := 0 :: Vaflxk.nat r.length :: r.flatMap Vaflxk.counted) (D.up G3) G3 hb (could_ok hgs hr) q
  | _ => exact hk.elim
theorem pure_answer_edit (T : Fx K mg A) (vs : List V) (H : Hp) (Q : VK) (E : XK) (h : sp_answer_edit K A vs H Q E) : t_answer_edit K A E { nx := fun _ H' => Q .non H', rt := Q } (start ["desk", "call"] vs) H := by
  obtain ⟨_, dk, dx, pa, ca, s, k, S, rfl, D, hk, qE, q⟩ := h
  cases k with
  | edit i j u =>
    obtain ⟨hcall, hu⟩ := hk
    unfold t_answer_edit
    walk_at "go"
    refine ⟨rfl, dk, dx, pa, ca, S, s, i, j, u, rfl, D, hcall, hu, fun n hn H' d e hd => qE _ _ H' e (Or.inl ⟨n, d, rfl, rfl, hd, (step_no hn).2.2.1 i j u⟩), fun gs hgs => ⟨fun r hr S2 a H2 G2 hra => ?_, fun c C hc hC H' e => qE _ _ H' e (Or.inr ⟨c, hC, rfl, edit_no hgs hc⟩)⟩⟩
    walk_at "go"
    refine ⟨rfl, dk, dx, pa, a, S2, s, r, rfl, D.up G2, hra, outc_good hgs hr, fun H3 G3 D3 => ?_⟩
    have G23 := (G2.any (r := two dk pa)).trans G3
    walk_at "go"
    refine w_obj (show 1 ≤ 1000000 by decide) (fun b hb => ?_)
    have hstep : Vaflxk.step s (.edit i j u) = (⟨s.program, r, Vaflxk.pastWith s.past s.record⟩, [0]) := edit_ok hgs hr
    obtain ⟨pr, rc, ps, hd, hpa, _⟩ := D3.ex
    refine q S2 _ pa b (G23.trans (Grow.made (r := two dk pa) (o := .lst [.int 0]) G23.sub hb)) ?_ (Or.inl rfl) ?_ (G23.stay _ hb) (fun z => by rw [z, hpa] at hb; cases hb)
    · rw [hstep]
      exact D3.keep (same_upd hb)
    · rw [hstep, upd_same]
      rfl
  | _ => exact hk.elim
theorem pure_answer_whole (T : Fx K mg A) (vs : List V) (H : Hp) (Q : VK) (E : XK) (h : sp_answer_whole K A vs H Q E) : t_answer_whole K A E { nx := fun _ H' => Q .non H', rt := Q } (start ["desk", "call", "shown"] vs) H := by
  obtain ⟨_, dk, dx, pa, ca, s, k, S, rfl, D, hk, qE, q⟩ := h
  cases k with
  | whole o =>
    obtain ⟨⟨dc, an, ar, kd, hca, han, har⟩, ho⟩ := hk
    rw [numbers_vI] at har
    have hc := D.hS _ _ hca
    have sar : SqL K H ar (vBs o) := SqL.of (D.hS _ _ har)
    have hstep0 : Vaflxk.step s (.whole o) = if Vaflxa.goodText 240 o then Vaflxk.doWhole s o else (s, [-1]) := rfl
    unfold t_answer_whole
    walk_at "go"
    refine ⟨rfl, ar, o, rfl, sar, ho, fun hg H1 e1 => ?_, fun hg H1 e1 => qE _ _ H1 e1 (Or.inr ⟨-1, Or.inr (Or.inl ⟨rfl, rfl⟩), rfl, by rw [hstep0, hg]; rfl⟩)⟩
    rw [hg, if_pos rfl] at hstep0
    have G1 : Grow nobody S H S H1 := Grow.same_ D.hS e1
    have D1 := D.keep e1
    obtain ⟨pr, rc, ps, hd, hpa, hpr, hrc, hps⟩ := D1.ex
    walk_at "go"
    refine w_mk ?_
    walk_at "go"
    refine made_shown G1.sub hpr hrc D.ok.good (fun n hn H' d' e' hd' => qE _ _ H' (e1.trans e') (Or.inl ⟨n, d', rfl, rfl, hd', by rw [hstep0]; exact (step_no hn).2.2.2.1 o⟩)) (fun gs hgs S2 H2 y G2 hy => ?_)
    have G12 := G1.trans G2
    have hc2 := G12.Same _ _ hc
    walk_at "go"
    refine ⟨rfl, y, ar, S2, s, gs, o, rfl, G2.sub, hy, G2.up _ _ har, fun S3 x H3 G3 hx => ?_⟩
    have G13 := G12.trans G3
    have hw : Vaflxk.doWhole s o = Vaflxk.doEdit s ((Vaflxk.commonEnds (flat gs) o).1 : Nat) (((flat gs).length - (Vaflxk.commonEnds (flat gs) o).2 : Nat) : Int) (midOf o (Vaflxk.commonEnds (flat gs) o)) := by
      unfold Vaflxk.doWhole
      rw [out_ok hgs]
      rfl
    have hml := mid_len o (Vaflxk.commonEnds (flat gs) o)
    rw [hw] at hstep0
    walk_at "go"
    refine ⟨rfl, y, x, S3, s, gs, _, _, _, rfl, G3.sub, hy.mono G3.up, hx, by omega, fun r hr S4 a H4 G4 hra => ?_, fun c C hc hC H' e => qE _ _ H' (G13.Same.trans e) (Or.inr ⟨c, hC, rfl, by rw [hstep0]; exact edit_no hgs hc⟩)⟩
    have G14 := G13.trans G4
    rw [edit_ok hgs hr] at hstep0
    walk_at "go"
    refine ⟨rfl, dk, dx, pa, a, S4, s, r, rfl, D.up G14, hra, outc_good hgs hr, fun H5 G5 D5 => ?_⟩
    have G15 := (G14.any (r := two dk pa)).trans G5
    walk_at "go"
    refine w_obj (show 1 ≤ 1000000 by decide) (fun b hb => ?_)
    obtain ⟨pr5, rc5, ps5, hd5, hpa5, _⟩ := D5.ex
    refine q S4 _ pa b (G15.trans (Grow.made (r := two dk pa) (o := .lst [.int 0]) G15.sub hb)) ?_ (Or.inl rfl) ?_ (G15.stay _ hb) (fun z => by rw [z, hpa5] at hb; cases hb)
    · rw [hstep0]
      exact D5.keep (same_upd hb)
    · rw [hstep0, upd_same]
      rfl
  | _ => exact hk.elim
theorem pure_answer_free (T : Fx K mg A) (vs : List V) (H : Hp) (Q : VK) (E : XK) (h : sp_answer_free K A vs H Q E) : t_answer_free K A E { nx := fun _ H' => Q .non H', rt := Q } (start ["desk", "call"] vs) H := by
  obtain ⟨_, dk, dx, pa, ca, s, k, S, rfl, D, hk, qE, q⟩ := h
  cases k with
  | free i =>
    obtain ⟨row, dc, an, ar, kd, hca, han, har⟩ := hk
    have hc := D.hS _ _ hca
    unfold t_answer_free
    walk_at "go"
    refine w_obj (show 1 ≤ 1000000 by decide) (fun zn hzn => ?_)
    have e1 := same_upd (o := .lst [.int 0]) hzn
    have G1 : Grow nobody S H S (upd H zn (.lst [.int 0])) := Grow.made D.hS hzn
    have hn1 : (upd H zn (.lst [.int 0])) zn = some (.lst [.int 0]) := upd_same
    generalize upd H zn (.lst [.int 0]) = H1 at e1 G1 hn1 ⊢
    have D1 := D.keep e1
    obtain ⟨pr, rc, ps, hd, hpa, hpr, hrc, hps⟩ := D1.ex
    walk_at "go"
    refine w_mk ?_
    walk_at "go"
    refine made_shown G1.sub hpr hrc D.ok.good (fun n hn H' d' e' hd' => qE _ _ H' (e1.trans e') (Or.inl ⟨n, d', rfl, rfl, hd', (step_no hn).2.2.2.2 i⟩)) (fun gs hgs S2 H2 y G2 hy => ?_)
    have G12 := G1.trans G2
    have hc2 := G12.Same _ _ hc
    have sn2 : SqL K H2 an (vI [i]) := SqL.of (G12.Same _ _ (D.hS _ _ han))
    have hstep : Vaflxk.step s (.free i) = (s, if i < 0 ∨ ((flat gs).length : Int) ≤ i then [-2] else 0 :: Vaflxk.numbers (Vaflxk.freeAt s (flat gs) ((Vaflxk.spansOf s.record s.program).getD []) i.toNat)) := by
      rw [ask_is _ rfl]
      unfold Vaflxk.answerOf Vaflxk.withOut
      rw [out_ok hgs]
      rfl
    walk_at "go"
    refine w_ixL sn2 (at_of (j := 0) rfl rfl) ?_
    walk_at "go"
    refine ⟨rfl, y, S2, s, gs, i, rfl, G2.sub, hy, fun hb H' e => qE _ _ H' (G12.Same.trans e) (Or.inr ⟨-2, Or.inl ⟨rfl, rfl⟩, rfl, by rw [hstep, if_pos hb]⟩), fun hb S3 a H3 G3 ha => ?_⟩
    have G13 := G12.trans G3
    have hn3 := G3.Same _ _ (G2.Same _ _ hn1)
    rw [if_neg hb] at hstep
    have hl : (Vaflxk.freeAt s (flat gs) ((Vaflxk.spansOf s.record s.program).getD []) i.toNat).length ≤ 95 := by
      unfold Vaflxk.freeAt
      refine Nat.le_trans (List.length_filter_le _ _) ?_
      rw [List.length_map]
      rw [List.length_range]
      exact Nat.le_refl _
    refine w_cat hn3 (G3.sub _ _ ha) (by rw [vBs_length, List.length_singleton]; omega) (fun b hb => ?_)
    have e9 : ∀ l : List UInt8, [V.int 0] ++ vBs l = vI (0 :: Vaflxk.numbers l) := fun l => by
      unfold vI
      rw [List.map_cons, numbers_map]
      rfl
    rw [e9]
    exact answer_new (D.up G13) G13 hb hstep q
  | _ => exact hk.elim
end
/-! ### comprehensions over range(n) and enumerate(xs) -/
def IsLcR (g : TG) (tt : TT) (te : TE) (ix : List Nat) (σ : L2.St) (vs : List V) (H1 : Hp) (Q : VK) : Prop := ∃ j : Int, vs = [.int j] ∧ -(2 ^ 62) ≤ j ∧ j < 2 ^ 62 ∧ ∀ D, H1 D = none → ∃ W : Nat → Nat → Hp → Prop, (∃ m, W 0 m (upd H1 D (.lst []))) ∧ ∀ i m H, W i m H →
  ((Itr 0 j.toNat).stop i H ∧ Q (.ref D) H) ∨ ((Itr 0 j.toNat).go i H ∧ ∃ N : Hp → Prop, (∀ H', N H' → ∃ m', m' < m ∧ W (i + 1) m' H') ∧ ∀ x H', (Itr 0 j.toNat).yld i H x H' → g x (wipe σ ix) H' fun σ2 H2 => wipe σ2 ix = wipe σ ix ∧ tt σ2 H2 fun b H3 =>
    if b = true then te σ2 H3 fun z H4 => ∃ acc, H4 D = some (.lst acc) ∧ acc.length < sizeLine ∧ N (upd H4 D (.lst (acc ++ [z]))) else N H3)
theorem w_lcr {σ : L2.St} {H : Hp} {Q : VK} {ts : TA} {g : TG} {tt : TT} {te : TE} {ix : List Nat} (h : ts σ H fun vs H1 => IsLcR g tt te ix σ vs H1 Q) : tLc (iRng1 ts) g tt te ix σ H Q := h
theorem w_islcr {σ : L2.St} {H : Hp} {Q : VK} {te : TE} {k n : Nat} (hz : n ≤ 1000000) (Pv : Addr → Nat → Hp → Prop) (h0 : ∀ D, H D = none → Pv D 0 (upd H D (.lst [])))
    (hs : ∀ D i H', H D = none → i < n → Pv D i H' → te ((σ.set k none).set k (some (.int (i : Nat)))) H' fun z H4 => ∃ acc, H4 D = some (.lst acc) ∧ acc.length < sizeLine ∧ Pv D (i + 1) (upd H4 D (.lst (acc ++ [z])))) (hd : ∀ D H', H D = none → Pv D n H' → Q (.ref D) H') :
    IsLcR (gName k) tYes te [k] σ [.int (n : Nat)] H Q := by
  refine ⟨_, rfl, by omega, by omega, fun D hD => ?_⟩
  rw [show ((n : Int)).toNat = n from rfl]
  refine lc_range (lo := 0) (n := n) (Pv D) (h0 D hD) (fun i H' hi p => ?_) (fun H' p => hd D H' hD p)
  refine ⟨wipe_one, ?_⟩
  show (if true = true then te (List.set (wipe σ [k]) k (some (V.int (0 + (i : Nat))))) H' (fun z H4 => ∃ acc, H4 D = some (.lst acc) ∧ acc.length < sizeLine ∧ Pv D (i + 1) (upd H4 D (.lst (acc ++ [z])))) else Pv D (i + 1) H')
  rw [if_pos rfl, Int.zero_add]
  exact hs D i H' hD hi p
def IsLcE (K : PySem.W.Frag) (g : TG) (tt : TT) (te : TE) (ix : List Nat) (σ : L2.St) (vs : List V) (H1 : Hp) (Q : VK) : Prop := ∃ a xs, vs = [.ref a] ∧ SqL K H1 a xs ∧ ∀ D, H1 D = none → ∃ W : Nat → Nat → Hp → Prop, (∃ m, W 0 m (upd H1 D (.lst []))) ∧ ∀ i m H, W i m H →
  ((Ite K a).stop i H ∧ Q (.ref D) H) ∨ ((Ite K a).go i H ∧ ∃ N : Hp → Prop, (∀ H', N H' → ∃ m', m' < m ∧ W (i + 1) m' H') ∧ ∀ x H', (Ite K a).yld i H x H' → g x (wipe σ ix) H' fun σ2 H2 => wipe σ2 ix = wipe σ ix ∧ tt σ2 H2 fun b H3 =>
    if b = true then te σ2 H3 fun z H4 => ∃ acc, H4 D = some (.lst acc) ∧ acc.length < sizeLine ∧ N (upd H4 D (.lst (acc ++ [z]))) else N H3)
theorem w_lce {K : PySem.W.Frag} {σ : L2.St} {H : Hp} {Q : VK} {ts : TA} {g : TG} {tt : TT} {te : TE} {ix : List Nat} (h : ts σ H fun vs H1 => IsLcE K g tt te ix σ vs H1 Q) : tLc (iEnum K ts) g tt te ix σ H Q := h
theorem w_islce {K : PySem.W.Frag} {σ : L2.St} {H : Hp} {Q : VK} {g : TG} {tt : TT} {te : TE} {ix : List Nat} {a : Addr} {xs : List V} (h : SqL K H a xs) (Pv : Addr → Nat → Hp → Prop) (h0 : ∀ D, H D = none → Pv D 0 (upd H D (.lst []))) (hG : ∀ D i H', H D = none → Pv D i H' → SqL K H' a xs)
    (hs : ∀ D i x T H', H D = none → xs[i]? = some x → H' T = none → Pv D i H' → g (.ref T) (wipe σ ix) (upd H' T (.tup [.int (i : Nat), x])) fun σ2 H2 => wipe σ2 ix = wipe σ ix ∧ tt σ2 H2 fun b H3 =>
      if b = true then te σ2 H3 fun z H4 => ∃ acc, H4 D = some (.lst acc) ∧ acc.length < sizeLine ∧ Pv D (i + 1) (upd H4 D (.lst (acc ++ [z]))) else Pv D (i + 1) H3) (hd : ∀ D H', H D = none → Pv D xs.length H' → Q (.ref D) H') :
    IsLcE K g tt te ix σ [.ref a] H Q := by
  refine ⟨a, xs, rfl, h, fun D hD => ?_⟩
  refine lc_it (walk_enum (K := K) (a := a) (xs := xs)) (Pv D) (h0 D hD) (fun i H' _ p => hG D i H' hD p) (fun i x H' H2 hi p y => ?_) (fun H' p => hd D H' hD p)
  obtain ⟨T, u, v, rfl, hT, rfl, e1, e2⟩ := y
  cases Option.some.inj e1
  exact hs D i v T H' hD e2 hT p
/-! ### where an output's bytes come from -/
def srcs (gs : List G3) : List (List Int) := gs.flatMap fun g => (List.range g.1.length).map (srcL g)
theorem srcs_are {i n : Nat} {sp : List Vaflxk.Span} {gs : List G3} (h : SpAre i n sp gs) : (List.range (flat gs).length).map (fun j => srcN sp (n + j)) = srcs gs := by
  induction h with
  | nil => rfl
  | @cons i n s g l m hs _ ih =>
    have e0 : flat (g :: m) = g.1 ++ flat m := by
      unfold flat
      rw [List.flatMap_cons]
    unfold srcs at ih ⊢
    rw [e0, List.length_append, range_add, List.map_append, List.flatMap_cons, List.map_map]
    congr 1
    · exact List.map_congr_left fun k hk => src_here hs (List.mem_range.mp hk)
    · rw [← ih]
      refine List.map_congr_left fun k hk => ?_
      show srcN (s :: l) (n + (g.1.length + k)) = _
      rw [src_past hs (by omega), Nat.add_assoc]
theorem srcs_snoc (gs : List G3) (i : Nat) (g : G3) (h : gs[i]? = some g) : srcs (gs.take (i + 1)) = srcs (gs.take i) ++ (List.range g.1.length).map (srcL g) := by
  unfold srcs
  rw [List.take_add_one, h, List.flatMap_append]
  show _ ++ [g].flatMap _ = _
  rw [List.flatMap_singleton]
theorem srcs_short : ∀ (gs : List G3), (∀ g ∈ gs, g.1.length ≤ 1000) → (srcs gs).length ≤ 1000 * gs.length
  | [], _ => Nat.zero_le _
  | g :: gs, h => by
    have ih := srcs_short gs fun x hx => h x (List.mem_cons_of_mem _ hx)
    have := h g List.mem_cons_self
    unfold srcs at ih ⊢
    rw [List.flatMap_cons, List.length_append, List.length_cons, List.length_map, List.length_range]
    omega
def IsSrc (S : Hp) (v : V) (l : List Int) : Prop := ∃ a, v = .ref a ∧ S a = some (.lst (vI l))
theorem IsSrc.mono {S S' : Hp} {v : V} {l : List Int} (h : IsSrc S v l) (e : Same S S') : IsSrc S' v l := by
  obtain ⟨a, h1, h2⟩ := h
  exact ⟨a, h1, e _ _ h2⟩
theorem Paired.app {α β : Type} {F : α → β → Prop} {l l' : List α} {m m' : List β} (h : Paired F l m) (h' : Paired F l' m') : Paired F (l ++ l') (m ++ m') := by
  induction h with
  | nil => exact h'
  | cons r _ ih => exact .cons r ih
def hits (L : List (List Int)) (z : List Int) (m : Nat) : List Nat := (List.range m).filter fun b => decide (L[b]? = some z)
theorem hits_next {L : List (List Int)} {z x : List Int} {m : Nat} (h : L[m]? = some x) : hits L z (m + 1) = hits L z m ++ (if x = z then [m] else []) := by
  unfold hits
  rw [List.range_succ, List.filter_append]
  congr 1
  by_cases e : x = z
  · rw [if_pos e, List.filter_cons_of_pos, List.filter_nil]
    rw [h, e]
    exact decide_eq_true rfl
  · rw [if_neg e, List.filter_cons_of_neg, List.filter_nil]
    rw [h]
    exact fun y => e (Option.some.inj (of_decide_eq_true y))
def natI (l : List Nat) : List Int := l.map Vaflxk.nat
section
variable {K : PySem.W.Frag} {mg : Str → Option Value} {A : Ads}
theorem spread_ok {s : Vaflxk.State} {gs : List G3} (hg : outsFrom s.record 0 s.program = .ok gs) (f i : Int) : Vaflxk.step s (.spread f i) = (s, if f < 1 ∨ (s.record.length : Int) < f then [-6] else if i < 0 ∨ ((s.record.getD (f.toNat - 1) []).length : Int) ≤ i then [-2] else 0 :: natI (hits (srcs gs) [f, i] (srcs gs).length)) := by
  rw [ask_is _ rfl]
  unfold Vaflxk.answerOf Vaflxk.withOut
  rw [out_ok hg]
  dsimp only
  unfold Vaflxk.spreadAnswer
  obtain ⟨sp, h1, h2⟩ := spans_are s.record s.program 0 0 gs hg
  have e1 : (Vaflxk.spansOf s.record s.program).getD [] = sp := by
    unfold Vaflxk.spansOf
    rw [h1]
    rfl
  have e2 := srcs_are h2
  simp only [Nat.zero_add] at e2
  rw [e1]
  by_cases c1 : f < 1 ∨ Vaflxk.nat s.record.length < f
  · have c3 : f < 1 ∨ (s.record.length : Int) < f := c1
    rw [if_pos c1, if_pos c3]
  · have c3 : ¬ (f < 1 ∨ (s.record.length : Int) < f) := c1
    rw [if_neg c1, if_neg c3]
    by_cases c2 : i < 0 ∨ Vaflxk.nat (s.record.getD (f.toNat - 1) []).length ≤ i
    · have c4 : i < 0 ∨ ((s.record.getD (f.toNat - 1) []).length : Int) ≤ i := c2
      rw [if_pos c2, if_pos c4]
    · have c4 : ¬ (i < 0 ∨ ((s.record.getD (f.toNat - 1) []).length : Int) ≤ i) := c2
      rw [if_neg c2, if_neg c4]
      unfold natI hits
      have e3 : (srcs gs).length = (flat gs).length := by rw [← e2, List.length_map, List.length_range]
      rw [e3]
      congr 3
      refine List.filter_congr fun b hb => ?_
      have hb := List.mem_range.mp hb
      have e4 : (srcs gs)[b]? = some (srcN sp b) := by
        rw [← e2, List.getElem?_map, List.getElem?_range hb]
        rfl
      rw [e4]
      unfold srcN
      generalize Vaflxk.sourceOf sp b = x
      obtain ⟨x1, x2⟩ := x
      have hf : 1 ≤ f := by omega
      have hi : 0 ≤ i := by omega
      by_cases e5 : (x1, x2) = (f.toNat, i.toNat)
      · rw [beq_iff_eq.mpr e5]
        injection e5 with e6 e7
        refine (decide_eq_true ?_).symm
        show some [(x1 : Int), (x2 : Int)] = some [f, i]
        rw [e6, e7, show ((f.toNat : Nat) : Int) = f by omega, show ((i.toNat : Nat) : Int) = i by omega]
      · rw [beq_eq_false_iff_ne.mpr e5]
        refine (decide_eq_false fun z => e5 ?_).symm
        have z : [(x1 : Int), (x2 : Int)] = [f, i] := Option.some.inj z
        injection z with z1 z2
        injection z2 with z2 _
        rw [← z1, ← z2]
        rfl
theorem pure_answer_spread (T : Fx K mg A) (vs : List V) (H : Hp) (Q : VK) (E : XK) (h : sp_answer_spread K A vs H Q E) : t_answer_spread K A E { nx := fun _ H' => Q .non H', rt := Q } (start ["desk", "call", "field", "place", "givens", "sources", "given", "number", "source", "k"] vs) H := by
  obtain ⟨_, dk, dx, pa, ca, s, k, S, rfl, D, hk, qE, q⟩ := h
  cases k with
  | spread f i =>
    obtain ⟨row, dc, an, ar, kd, hca, han, har⟩ := hk
    have hc := D.hS _ _ hca
    have sn : SqL K H an (vI [f, i]) := SqL.of (D.hS _ _ han)
    obtain ⟨pr, rc, ps, hd, hpa, hpr, ⟨xs, hrc, hxs⟩, hps⟩ := D.ex
    obtain ⟨good1, good2⟩ := good_small D.ok.good
    obtain ⟨s1, s2⟩ := prog_short hpr
    have hxl : xs.length = s.record.length := Paired.len hxs
    unfold t_answer_spread
    walk_at "go"
    refine w_ixL sn (at_of (j := 0) rfl rfl) ?_
    walk_at "go"
    refine w_ixL sn (at_of (j := 1) rfl rfl) ?_
    walk_at "go"
    refine ⟨rfl, pr, s.program, rc, s.record, S, rfl, D.hS, hpr, ⟨xs, hrc, hxs⟩, fun t ht => Nat.le_trans (good1 t ht) (by decide), Nat.le_trans good2 (by decide), fun n hn H' d e2 hxd => qE _ _ H' e2 (Or.inl ⟨n, d, rfl, rfl, hxd, (step_no hn).1 f i⟩), fun gs hgs S2 a H2 ws G2 ha hg => ?_⟩
    have hstep := spread_ok hgs f i
    have D2 := D.up G2
    obtain ⟨l1, l2⟩ := outs_len (fun t ht => Nat.le_trans (good1 t ht) (by decide)) _ _ _ s1 hgs
    have hlen : ws.length = gs.length := Paired.len hg
    have hd2 := G2.Same _ _ hd
    have sqr : SqL K H2 rc xs := SqL.of (G2.sub _ _ (G2.up _ _ hrc))
    have no6 : (f < 1 ∨ (s.record.length : Int) < f) → (tRet (tLst (tCons (tUn (rU fun i => .int (-i)) (tC (.int 6))) tNil)) : TS) { nx := fun _ H' => Q .non H', rt := Q } [some (.ref dk), some (.ref ca), some (.int f), some (.int i), some (.ref a), none, none, none, none, none] H2 := fun c => by
      rw [if_pos c] at hstep
      walk_at "go"
      refine w_obj (show 1 ≤ 1000000 by decide) (fun b hb => ?_)
      exact answer_new (l := [-6]) D2 G2 hb hstep q
    walk_at "go"
    refine w_if2 (fun h1 => ?_) (fun h1 => ?_)
    · have h1 : f < 1 := of_decide_eq_true h1
      walk_at "go1"
      exact no6 (Or.inl h1)
    have h1 : ¬ f < 1 := of_decide_eq_false h1
    walk_at "go"
    rw [hxl]
    refine w_if2 (fun h2 => ?_) (fun h2 => ?_)
    · have h2 : (s.record.length : Int) < f := of_decide_eq_true h2
      exact no6 (Or.inr h2)
    have h2 : ¬ (s.record.length : Int) < f := of_decide_eq_false h2
    rw [if_neg (by omega)] at hstep
    obtain ⟨t, ht⟩ : ∃ t, s.record[f.toNat - 1]? = some t := ⟨_, List.getElem?_eq_getElem (by omega)⟩
    obtain ⟨v, hv, tb, rfl, htb⟩ := Paired.get hxs ht
    have stb : SqL K H2 tb (vBs t) := SqL.of (G2.sub _ _ (G2.up _ _ htb))
    have hgd : s.record.getD (f.toNat - 1) [] = t := by
      simp only [List.getD_eq_getElem?_getD, ht, Option.getD_some]
    rw [hgd] at hstep
    have no2 : (i < 0 ∨ (t.length : Int) ≤ i) → (tRet (tLst (tCons (tUn (rU fun i => .int (-i)) (tC (.int 2))) tNil)) : TS) { nx := fun _ H' => Q .non H', rt := Q } [some (.ref dk), some (.ref ca), some (.int f), some (.int i), some (.ref a), none, none, none, none, none] H2 := fun c => by
      rw [if_pos c] at hstep
      walk_at "go"
      refine w_obj (show 1 ≤ 1000000 by decide) (fun b hb => ?_)
      exact answer_new (l := [-2]) D2 G2 hb hstep q
    walk_at "go"
    refine w_if2 (fun h3 => ?_) (fun h3 => ?_)
    · have h3 : i < 0 := of_decide_eq_true h3
      walk_at "go1"
      exact no2 (Or.inl h3)
    have h3 : ¬ i < 0 := of_decide_eq_false h3
    walk_at "go"
    refine w_ixL sqr (at_of (j := f.toNat - 1) (by omega) hv) ?_
    walk_at "go"
    rw [vBs_length]
    refine w_if2 (fun h4 => ?_) (fun h4 => ?_)
    · have h4 : (t.length : Int) ≤ i := of_decide_eq_true h4
      exact no2 (Or.inr h4)
    have h4 : ¬ (t.length : Int) ≤ i := of_decide_eq_false h4
    rw [if_neg (by omega)] at hstep
    walk_at "go"
    refine w_obj (show 0 ≤ 1000000 by decide) (fun sn' hsn => ?_)
    have G3 := G2.trans (Grow.made (r := nobody) (o := .lst []) G2.sub hsn)
    have ssn : S2 sn' = none := G2.sub.free hsn
    have hs3 : (upd H2 sn' (.lst [])) sn' = some (.lst []) := upd_same
    have nsn : H sn' = none := G2.stay _ hsn
    generalize upd H2 sn' (.lst []) = H3 at G3 hs3 ⊢
    walk_at "go"
    refine w_isforl (xs := ws) (fun j σ H' => ∃ S' vs' v6, σ = [some (.ref dk), some (.ref ca), some (.int f), some (.int i), some (.ref a), some (.ref sn'), v6, none, none, none] ∧ Grow nobody S H S' H' ∧ Same S2 S' ∧ H' sn' = some (.lst vs') ∧ S' sn' = none ∧ Paired (IsSrc S') vs' (srcs (gs.take j))) (SqL.of (G3.sub _ _ ha))
      ⟨S2, [], none, rfl, G3, L2.Same.refl _, hs3, ssn, .nil⟩ (fun j σ H' _ ⟨S', vs', v6, _, G, e, _⟩ => SqL.of (G.sub _ _ (e _ _ ha))) ?_ ?_
    · rintro j x σ H' hj ⟨S', vs', v6, rfl, G, e, hsl, ss, hp⟩
      obtain ⟨g, hgj, b, rfl, hgv⟩ := Paired.get' hg hj
      have hgl := l1 g (List.mem_of_getElem? hgj)
      have hjl : j < gs.length := (List.getElem?_eq_some_iff.mp hgj).1
      obtain ⟨dg, at_, hb, hat⟩ := hgv.mono (e.trans G.sub)
      have sat : SqL K H' at_ (vBs g.1) := SqL.of hat
      have hsz := srcs_short (gs.take j) fun x hx => l1 x (List.mem_of_mem_take hx)
      rw [List.length_take, Nat.min_eq_left (by omega)] at hsz
      have hvl : vs'.length = (srcs (gs.take j)).length := Paired.len hp
      walk_at "go"
      refine w_lcr ?_
      walk_at "go"
      rw [vBs_length]
      refine w_islcr (n := g.1.length) (by omega) (fun Dl m H4 => ∃ S4 vs4, Grow nobody S' H' S4 H4 ∧ H4 Dl = some (.lst vs4) ∧ S4 Dl = none ∧ Paired (IsSrc S4) vs4 ((List.range m).map (srcL g))) (fun Dl hDl => ⟨S', [], Grow.made G.sub hDl, upd_same, G.sub.free hDl, .nil⟩) ?_ ?_
      · rintro Dl m H4 hDl hm ⟨S4, vs4, G4, hl4, sl4, hp4⟩
        obtain ⟨dg4, at4, hb4, hat4⟩ := hgv.mono (e.trans (G4.up.trans G4.sub))
        walk_at "go"
        refine ⟨rfl, b, g, m, rfl, ⟨dg4, at4, hb4, hat4⟩, fun p hpn => ?_⟩
        have esl : (if g.2.1 = 0 then [V.int 0, .int 0] else [.int (g.2.1 : Nat), .int ((g.2.2 + m : Nat) : Int)]) = vI (srcL g m) := by
          unfold srcL
          split <;> rfl
        rw [esl]
        have L5 := Grow.laid (r := nobody) (o := .lst (vI (srcL g m))) G4.sub hpn
        have G5 := G4.trans L5
        have hl5 := L5.Same _ _ hl4
        have sl5 := L5.out (by rw [hl4]; exact fun z => nomatch z) sl4
        have hv4 : vs4.length = m := by
          have := Paired.len hp4
          rw [List.length_map, List.length_range] at this
          exact this
        refine ⟨vs4, hl5, by rw [hv4]; exact Nat.lt_of_lt_of_le (show m < 1000 by omega) (by decide), _, vs4 ++ [.ref p], G5.put_new hDl (by rw [hl5]; exact fun z => nomatch z) sl5, upd_same, sl5, ?_⟩
        rw [List.range_succ, List.map_append]
        exact Paired.snoc (Paired.mapP hp4 fun _ _ z => z.mono L5.up) ⟨p, rfl, upd_same⟩
      · rintro Dl H4 hDl ⟨S4, vs4, G4, hl4, sl4, hp4⟩
        have hv4 : vs4.length = g.1.length := by
          have := Paired.len hp4
          rw [List.length_map, List.length_range] at this
          exact this
        have hs4 := G4.Same _ _ hsl
        have ss4 := G4.out (by rw [hsl]; exact fun z => nomatch z) ss
        walk_at "go"
        refine w_ext hs4 hl4 (Nat.le_trans (show _ ≤ 100000 by omega) (by decide)) ?_
        walk_at "go"
        refine ⟨S4, vs' ++ vs4, _, rfl, (G.trans G4).put_new nsn (by rw [hs4]; exact fun z => nomatch z) ss4, e.trans G4.up, upd_same, ss4, ?_⟩
        rw [srcs_snoc gs j g hgj]
        exact Paired.app (Paired.mapP hp fun _ _ z => z.mono G4.up) hp4
    · rintro σ H' ⟨S', vs', v6, rfl, G, e, hsl, ss, hp⟩
      rw [hlen, List.take_length] at hp
      have hvl : vs'.length = (srcs gs).length := Paired.len hp
      have hsz := srcs_short gs l1
      walk_at "go"
      refine w_obj (show 1 ≤ 1000000 by decide) (fun zn hzn => ?_)
      have G4 := G.trans (Grow.made (r := nobody) (o := .lst [.int 0]) G.sub hzn)
      have hn4 : (upd H' zn (.lst [.int 0])) zn = some (.lst [.int 0]) := upd_same
      have hs4 := same_upd (o := .lst [.int 0]) hzn _ _ hsl
      generalize upd H' zn (.lst [.int 0]) = H4 at G4 hn4 hs4 ⊢
      refine w_lce ?_
      walk_at "go"
      refine w_islce (SqL.of hs4) (fun Dl m H5 => Same H4 H5 ∧ H5 Dl = some (.lst (vI (natI (hits (srcs gs) [f, i] m))))) (fun Dl hDl => ⟨same_upd hDl, upd_same⟩) (fun Dl m H5 _ z => SqL.of (z.1 _ _ hs4)) ?_ ?_
      · rintro Dl m x W H5 hDl hx hW ⟨e5, hl5⟩
        obtain ⟨sl, hsm, b, rfl, hb⟩ := Paired.get' hp hx
        have hml : m < vs'.length := (List.getElem?_eq_some_iff.mp hx).1
        refine w_gtup2 (SqT.of upd_same) ⟨rfl, ?_⟩
        have e6 := same_upd (o := .tup [.int (m : Nat), .ref b]) hW
        have hl6 := e6 _ _ hl5
        generalize upd H5 W (.tup [.int (m : Nat), .ref b]) = H6 at e6 hl6 ⊢
        have e46 := e5.trans e6
        walk_at "go"
        refine w_obj (show 2 ≤ 1000000 by decide) (fun p hp => ?_)
        have e7 := same_upd (o := .lst [.int f, .int i]) hp
        have hl7 := e7 _ _ hl6
        have hb7 := e7 _ _ (e46 _ _ (G4.sub _ _ hb))
        refine w_eqI (l := sl) (m := [f, i]) (SqL.of hb7) (SqL.of upd_same) ?_
        have e47 := e46.trans e7
        generalize upd H6 p (.lst [.int f, .int i]) = H7 at hl7 e47 ⊢
        walk_at "go"
        have hnx := hits_next (z := [f, i]) hsm
        refine w_if2 (fun h6 => ?_) (fun h6 => ?_)
        · have h6 : sl = [f, i] := of_decide_eq_true h6
          rw [if_pos h6] at hnx
          walk_at "go"
          refine ⟨_, hl7, ?_, fun c o z => ?_, ?_⟩
          · have h8 : (hits (srcs gs) [f, i] m).length ≤ m := by
              unfold hits
              have := List.length_filter_le (fun b => decide ((srcs gs)[b]? = some [f, i])) (List.range m)
              rw [List.length_range] at this
              exact this
            unfold vI natI
            rw [List.length_map, List.length_map]
            exact Nat.lt_of_le_of_lt h8 (Nat.lt_of_lt_of_le (show m < 100000 by omega) (by decide))
          · rw [upd_ne (ne_of_none z hDl)]
            exact e47 _ _ z
          · rw [upd_same, hnx]
            unfold vI natI
            rw [List.map_append, List.map_append]
            rfl
        · have h6 : ¬ sl = [f, i] := of_decide_eq_false h6
          rw [if_neg h6, List.append_nil] at hnx
          rw [hnx]
          exact ⟨e47, hl7⟩
      · rintro Dl H5 hDl ⟨e5, hl5⟩
        rw [hvl] at hl5
        have G5 := G4.trans (Grow.same_ (r := nobody) G4.sub e5)
        have hz : (hits (srcs gs) [f, i] (srcs gs).length).length ≤ (srcs gs).length := by
          unfold hits
          have := List.length_filter_le (fun b => decide ((srcs gs)[b]? = some [f, i])) (List.range (srcs gs).length)
          rw [List.length_range] at this
          exact this
        refine w_cat (e5 _ _ hn4) hl5 (by
          unfold vI natI
          rw [List.length_map, List.length_map, List.length_singleton]
          omega) (fun b hb => ?_)
        exact answer_new (l := 0 :: natI (hits (srcs gs) [f, i] (srcs gs).length)) (D.up G5) G5 hb hstep q
  | _ => exact hk.elim
end
/-! ### which call it is -/
theorem one_of {k x : Int} {ns xs row : List Int} (h : [x :: xs] = [k :: ns] ∧ row = [] ∨ [x :: xs] = [k :: ns, row]) : k = x ∧ ns = xs ∧ row = [] := by
  rcases h with ⟨h, e⟩ | h
  · injection h with h _
    injection h with h1 h2
    exact ⟨h1.symm, h2.symm, e⟩
  · injection h with _ h
    cases h
theorem two_of {k x : Int} {ns xs row r : List Int} (h : [x :: xs, r] = [k :: ns] ∧ row = [] ∨ [x :: xs, r] = [k :: ns, row]) : k = x ∧ ns = xs ∧ row = r := by
  rcases h with ⟨h, _⟩ | h
  · injection h with _ h
    cases h
  · injection h with h1 h2
    injection h1 with h3 h4
    injection h2 with h5 _
    exact ⟨h3.symm, h4.symm, h5.symm⟩
theorem text_len {p : List Int} {t : List UInt8} (h : VaflxkNeutral.text? p = some t) : t.length = p.length := by
  have := congrArg List.length (text_is h)
  rw [List.length_map, vBs_length] at this
  exact this.symm
theorem map_some {α β : Type} {f : α → β} {o : Option α} {y : β} (h : o.map f = some y) : ∃ x, o = some x ∧ y = f x := by
  cases o with
  | none => cases h
  | some x => exact ⟨x, rfl, (Option.some.inj h).symm⟩
inductive KindOf : List (List Int) → Vaflxk.Call → Prop
  | program {p : List Int} {t : List UInt8} : VaflxkNeutral.text? p = some t → p.length ≤ 20000 → KindOf [[0], p] (.program t)
  | record {r : List Int} {ts : List (List UInt8)} : VaflxkNeutral.texts? r.length r = some ts → r.length ≤ 20000 → KindOf [[1], r] (.record ts)
  | output : KindOf [[2]] .output
  | fields : KindOf [[3]] .fields
  | sources : KindOf [[4]] .sources
  | piece {i : Int} : KindOf [[5, i]] (.piece i)
  | spread {f i : Int} : KindOf [[6, f, i]] (.spread f i)
  | could {i j : Int} {u : List Int} {t : List UInt8} : VaflxkNeutral.text? u = some t → u.length ≤ 20000 → KindOf [[7, i, j], u] (.could i j t)
  | edit {i j : Int} {u : List Int} {t : List UInt8} : VaflxkNeutral.text? u = some t → u.length ≤ 20000 → KindOf [[8, i, j], u] (.edit i j t)
  | whole {o : List Int} {t : List UInt8} : VaflxkNeutral.text? o = some t → o.length ≤ 20000 → KindOf [[9], o] (.whole t)
  | free {i : Int} : KindOf [[10, i]] (.free i)
  | undo : KindOf [[11]] .undo
theorem kind_is {c : List (List Int)} {k : Vaflxk.Call} (h : VaflxkNeutral.callOf c = some k) (ha : VaflxkNeutral.asked1 c = true) : KindOf c k := by
  unfold VaflxkNeutral.callOf at h
  split at h
  · obtain ⟨t, h1, rfl⟩ := map_some h
    rename_i p
    have ha : ((p.all fun (z : Int) => VaflxkNeutral.natural z 8) && decide (p.length ≤ 10000)) = true := ha
    rw [Bool.and_eq_true, decide_eq_true_eq] at ha
    exact .program h1 (by omega)
  · obtain ⟨t, h1, rfl⟩ := map_some h
    rename_i p
    have ha : ((p.all fun (z : Int) => decide (0 ≤ z) && decide (z ≤ 10000)) && decide (p.length ≤ 20000)) = true := ha
    rw [Bool.and_eq_true, decide_eq_true_eq] at ha
    exact .record h1 (by omega)
  · obtain rfl := Option.some.inj h; exact .output
  · obtain rfl := Option.some.inj h; exact .fields
  · obtain rfl := Option.some.inj h; exact .sources
  · obtain rfl := Option.some.inj h; exact .piece
  · obtain rfl := Option.some.inj h; exact .spread
  · obtain ⟨t, h1, rfl⟩ := map_some h
    rename_i i j p
    have ha : (VaflxkNeutral.whole60 i && (VaflxkNeutral.whole60 j && ((p.all fun (z : Int) => VaflxkNeutral.natural z 8) && decide (p.length ≤ 10000)))) = true := ha
    rw [Bool.and_eq_true, Bool.and_eq_true, Bool.and_eq_true, decide_eq_true_eq] at ha
    exact .could h1 (by omega)
  · obtain ⟨t, h1, rfl⟩ := map_some h
    rename_i i j p
    have ha : (VaflxkNeutral.whole60 i && (VaflxkNeutral.whole60 j && ((p.all fun (z : Int) => VaflxkNeutral.natural z 8) && decide (p.length ≤ 10000)))) = true := ha
    rw [Bool.and_eq_true, Bool.and_eq_true, Bool.and_eq_true, decide_eq_true_eq] at ha
    exact .edit h1 (by omega)
  · obtain ⟨t, h1, rfl⟩ := map_some h
    rename_i p
    have ha : ((p.all fun (z : Int) => VaflxkNeutral.natural z 8) && decide (p.length ≤ 10000)) = true := ha
    rw [Bool.and_eq_true, decide_eq_true_eq] at ha
    exact .whole h1 (by omega)
  · obtain rfl := Option.some.inj h; exact .free
  · obtain rfl := Option.some.inj h; exact .undo
  · cases h
theorem ask_no {s : Vaflxk.State} {i : Nat} (h : Vaflxa.run s.record s.program = .error i) : Vaflxk.step s .output = (s, [1, Vaflxk.nat i]) ∧ Vaflxk.step s .sources = (s, [1, Vaflxk.nat i]) ∧ ∀ z, Vaflxk.step s (.piece z) = (s, [1, Vaflxk.nat i]) := by
  have e : Vaflxk.outOf s = .error i := by
    unfold Vaflxk.outOf
    rw [h]
  refine ⟨?_, ?_, fun z => ?_⟩ <;>
  · rw [ask_is _ rfl]
    unfold Vaflxk.answerOf Vaflxk.withOut
    rw [e]
theorem out_piece {v : V} : (PySem.OeX.fo_NoOutput [v]).lookup ("piece" : Str) = some v := lk_here
section
variable {K : PySem.W.Frag} {mg : Str → Option Value} {A : Ads}
/-- the answer's def, taken out of the dict and called -/
theorem w_answer {sp : Sp} {n : Nat} {f dk ca an ar dc : Addr} {v2 : Option V} {WW : WX} {D : Ends} {H : Hp} (T : Fx K mg A) (W : WrD K A.g_ANSWERERS (ansTab A)) (hc : H ca = some (.ins A.c_Call dc (fs_Call (.int (n : Nat)) (.ref an) (.ref ar)))) (hf : atD (ansTab A) (n : Nat) = some f) (ht : tb_Ans K A f sp)
    (h : sp [.ref dk, .ref ca] H D.rt fun cls d H' => WW cls d [some (.ref dk), some (.ref ca), v2] H') :
    tRet (tCallV (tb_Ans K A) (WE WW) (tDWr K (tC (.ref A.g_ANSWERERS)) (tFld K (tVar 1) "kind")) (tCons (tVar 0) (tCons (tVar 1) tNil))) D [some (.ref dk), some (.ref ca), v2] H := by
  refine w_ret ?_
  show tDWr K (tC (.ref A.g_ANSWERERS)) (tFld K (tVar 1) "kind") _ H fun x H1 => IsDef (tb_Ans K A) x fun sp => _
  show tC (.ref A.g_ANSWERERS) _ H fun x H1 => tFld K (tVar 1) "kind" _ H1 fun y H2 => IsDGet K x y H2 _
  walk_at "go"
  refine ⟨_, _, _, f, rfl, rfl, W, hf, f, sp, rfl, ht, ?_⟩
  walk_at "go"
  exact h
theorem pure_answer_call (T : Fx K mg A) (W : WrD K A.g_ANSWERERS (ansTab A)) (vs : List V) (H : Hp) (Q : VK) (E : XK) (h : sp_answer_call K A vs H Q E) : t_answer_call K A E { nx := fun _ H' => Q .non H', rt := Q } (start ["desk", "call", "lack"] vs) H := by
  obtain ⟨_, dk, dx, pa, ca, s, c, S, rfl, D, ⟨dc, an, ar, kd, ns, row, hca, han, har, hcc⟩, ⟨hask, hsome, _⟩, _, q⟩ := h
  obtain ⟨k, hk⟩ := Option.isSome_iff_exists.mp hsome
  have hkind := kind_is hk hask
  have e0 : VaflxkNeutral.step s c = ((Vaflxk.step s k).1, (Vaflxk.step s k).2) := by
    unfold VaflxkNeutral.step
    rw [hk]
    rfl
  rw [e0] at q
  have q : ∀ S' H' pa' a, Grow (two dk pa) S H S' H' → DeskAt K A S' H' dk dx pa' (Vaflxk.step s k).1 → (pa' = pa ∨ H pa' = none) → H' a = some (.lst (vI (Vaflxk.step s k).2)) → H a = none → a ≠ pa' → Q (.ref a) H' := q
  have hc := D.hS _ _ hca
  unfold t_answer_call
  show tRet (tCallV (tb_Ans K A) (WE (wMix K (fun _ _ _ _ => False) _ _)) (tDWr K (tC (.ref A.g_ANSWERERS)) (tFld K (tVar 1) "kind")) (tCons (tVar 0) (tCons (tVar 1) tNil))) _ [some (.ref dk), some (.ref ca), none] H
  generalize hWW : wMix K (fun _ _ _ _ => False) _ _ = WW
  have err : ∀ C d H', L2.Same H H' → ErrTells A s k C d H' → WW (.ref C) d [some (.ref dk), some (.ref ca), none] H' := by
    intro C d H' e ht
    have new : ∀ (l : List Int) (a : Addr), Vaflxk.step s k = (s, l) → H' a = none → Q (.ref a) (upd H' a (.lst (vI l))) := fun l a hs ha => answer_new (D.keep e) (Grow.same_ D.hS e) ha hs q
    rw [← hWW]
    rcases ht with ⟨i, x, rfl, rfl, hx, hs⟩ | ⟨z, (⟨rfl, rfl⟩ | ⟨rfl, rfl⟩ | ⟨rfl, rfl⟩ | ⟨rfl, rfl⟩), rfl, hs⟩
    · refine ⟨true, T.xm_NoOutput_NoOutput, fun _ ea hea => go_nm ?_, fun z => nomatch z⟩
      refine w_ret ?_
      refine w_lst ?_
      refine w_cons (w_c ?_)
      refine w_cons ?_
      refine w_errF rfl hx out_piece ?_
      refine w_nil ?_
      refine w_obj (show 2 ≤ 1000000 by decide) (fun a ha => ?_)
      exact new [1, Vaflxk.nat i] a hs ha
    · refine ⟨false, T.xm_NoSuchPlace_NoOutput, (fun z => nomatch z), fun _ => ⟨false, T.xm_NoSuchPlace_NoSuchText, (fun z => nomatch z), fun _ => ⟨true, T.xm_NoSuchPlace_NoSuchPlace, fun _ ea hea => go_no ?_, fun z => nomatch z⟩⟩⟩
      walk_at "go"
      refine w_obj (show 1 ≤ 1000000 by decide) (fun a ha => ?_)
      exact new [-2] a hs ha
    · refine ⟨false, T.xm_NoSuchText_NoOutput, (fun z => nomatch z), fun _ => ⟨true, T.xm_NoSuchText_NoSuchText, fun _ ea hea => go_no ?_, fun z => nomatch z⟩⟩
      walk_at "go"
      refine w_obj (show 1 ≤ 1000000 by decide) (fun a ha => ?_)
      exact new [-1] a hs ha
    · refine ⟨false, T.xm_NoPart_NoOutput, (fun z => nomatch z), fun _ => ⟨false, T.xm_NoPart_NoSuchText, (fun z => nomatch z), fun _ => ⟨false, T.xm_NoPart_NoSuchPlace, (fun z => nomatch z), fun _ => ⟨true, T.xm_NoPart_NoPart, fun _ ea hea => go_no ?_, fun z => nomatch z⟩⟩⟩⟩
      walk_at "go"
      refine w_obj (show 1 ≤ 1000000 by decide) (fun a ha => ?_)
      exact new [-3] a hs ha
    · refine ⟨false, T.xm_NotLedBack_NoOutput, (fun z => nomatch z), fun _ => ⟨false, T.xm_NotLedBack_NoSuchText, (fun z => nomatch z), fun _ => ⟨false, T.xm_NotLedBack_NoSuchPlace, (fun z => nomatch z), fun _ => ⟨false, T.xm_NotLedBack_NoPart, (fun z => nomatch z), fun _ => ⟨true, T.xm_NotLedBack_NotLedBack, fun _ ea hea => go_no ?_, fun z => nomatch z⟩⟩⟩⟩⟩
      walk_at "go"
      refine w_obj (show 1 ≤ 1000000 by decide) (fun a ha => ?_)
      exact new [-9] a hs ha
  clear hWW hk e0 hsome hask
  have rows : ∀ {u : List Int} {t : List UInt8}, VaflxkNeutral.text? u = some t → S ar = some (.lst (u.map V.int)) → S ar = some (.lst (vI (Vaflxk.numbers t))) := fun {u t} h1 h2 => by
    rw [numbers_vI, ← text_is h1]
    exact h2
  cases hkind with
  | program h1 h2 =>
    obtain ⟨rfl, rfl, rfl⟩ := two_of hcc
    exact w_answer T W (n := 0) hc rfl (Or.inl ⟨rfl, rfl⟩) ⟨rfl, dk, dx, pa, ca, s, .program _, S, rfl, D, trivial, ⟨⟨dc, an, ar, _, hca, han, rows h1 har⟩, by rw [text_len h1]; exact h2⟩, trivial, q⟩
  | record h1 h2 =>
    obtain ⟨rfl, rfl, rfl⟩ := two_of hcc
    exact w_answer T W (n := 1) hc rfl (Or.inr (Or.inl ⟨rfl, rfl⟩)) ⟨rfl, dk, dx, pa, ca, s, .record _, S, rfl, D, trivial, ⟨_, ⟨dc, an, ar, _, hca, han, har⟩, h2, h1⟩, trivial, q⟩
  | output =>
    obtain ⟨rfl, rfl, rfl⟩ := one_of hcc
    exact w_answer T W (n := 2) hc rfl (Or.inr (Or.inr (Or.inl ⟨rfl, rfl⟩))) ⟨rfl, dk, dx, pa, ca, s, .output, S, rfl, D, trivial, rfl, fun i hi H' d e hd => err _ _ H' e (Or.inl ⟨i, d, rfl, rfl, hd, (ask_no hi).1⟩), fun _ _ => q⟩
  | fields =>
    obtain ⟨rfl, rfl, rfl⟩ := one_of hcc
    exact w_answer T W (n := 3) hc rfl (Or.inr (Or.inr (Or.inr (Or.inl ⟨rfl, rfl⟩)))) ⟨rfl, dk, dx, pa, ca, s, .fields, S, rfl, D, trivial, rfl, trivial, q⟩
  | sources =>
    obtain ⟨rfl, rfl, rfl⟩ := one_of hcc
    exact w_answer T W (n := 4) hc rfl (Or.inr (Or.inr (Or.inr (Or.inr (Or.inl ⟨rfl, rfl⟩))))) ⟨rfl, dk, dx, pa, ca, s, .sources, S, rfl, D, trivial, rfl, fun i hi H' d e hd => err _ _ H' e (Or.inl ⟨i, d, rfl, rfl, hd, (ask_no hi).2.1⟩), fun _ _ => q⟩
  | piece =>
    obtain ⟨rfl, rfl, rfl⟩ := one_of hcc
    exact w_answer T W (n := 5) hc rfl (Or.inr (Or.inr (Or.inr (Or.inr (Or.inr (Or.inl ⟨rfl, rfl⟩)))))) ⟨rfl, dk, dx, pa, ca, s, .piece _, S, rfl, D, trivial, ⟨_, dc, an, ar, _, hca, han, har⟩, fun i hi H' d e hd => err _ _ H' e (Or.inl ⟨i, d, rfl, rfl, hd, (ask_no hi).2.2 _⟩), fun _ _ => q⟩
  | spread =>
    obtain ⟨rfl, rfl, rfl⟩ := one_of hcc
    exact w_answer T W (n := 6) hc rfl (Or.inr (Or.inr (Or.inr (Or.inr (Or.inr (Or.inr (Or.inl ⟨rfl, rfl⟩))))))) ⟨rfl, dk, dx, pa, ca, s, .spread _ _, S, rfl, D, ⟨_, dc, an, ar, _, hca, han, har⟩, err, q⟩
  | could h1 h2 =>
    obtain ⟨rfl, rfl, rfl⟩ := two_of hcc
    exact w_answer T W (n := 7) hc rfl (Or.inr (Or.inr (Or.inr (Or.inr (Or.inr (Or.inr (Or.inr (Or.inl ⟨rfl, rfl⟩)))))))) ⟨rfl, dk, dx, pa, ca, s, .could _ _ _, S, rfl, D, ⟨⟨dc, an, ar, _, hca, han, rows h1 har⟩, by rw [text_len h1]; exact h2⟩, err, q⟩
  | edit h1 h2 =>
    obtain ⟨rfl, rfl, rfl⟩ := two_of hcc
    exact w_answer T W (n := 8) hc rfl (Or.inr (Or.inr (Or.inr (Or.inr (Or.inr (Or.inr (Or.inr (Or.inr (Or.inl ⟨rfl, rfl⟩))))))))) ⟨rfl, dk, dx, pa, ca, s, .edit _ _ _, S, rfl, D, ⟨⟨dc, an, ar, _, hca, han, rows h1 har⟩, by rw [text_len h1]; exact h2⟩, err, q⟩
  | whole h1 h2 =>
    obtain ⟨rfl, rfl, rfl⟩ := two_of hcc
    exact w_answer T W (n := 9) hc rfl (Or.inr (Or.inr (Or.inr (Or.inr (Or.inr (Or.inr (Or.inr (Or.inr (Or.inr (Or.inl ⟨rfl, rfl⟩)))))))))) ⟨rfl, dk, dx, pa, ca, s, .whole _, S, rfl, D, ⟨⟨dc, an, ar, _, hca, han, rows h1 har⟩, by rw [text_len h1]; exact h2⟩, err, q⟩
  | free =>
    obtain ⟨rfl, rfl, rfl⟩ := one_of hcc
    exact w_answer T W (n := 10) hc rfl (Or.inr (Or.inr (Or.inr (Or.inr (Or.inr (Or.inr (Or.inr (Or.inr (Or.inr (Or.inr (Or.inl ⟨rfl, rfl⟩))))))))))) ⟨rfl, dk, dx, pa, ca, s, .free _, S, rfl, D, ⟨_, dc, an, ar, _, hca, han, har⟩, err, q⟩
  | undo =>
    obtain ⟨rfl, rfl, rfl⟩ := one_of hcc
    exact w_answer T W (n := 11) hc rfl (Or.inr (Or.inr (Or.inr (Or.inr (Or.inr (Or.inr (Or.inr (Or.inr (Or.inr (Or.inr (Or.inr ⟨rfl, rfl⟩))))))))))) ⟨rfl, dk, dx, pa, ca, s, .undo, S, rfl, D, trivial, rfl, trivial, q⟩
end
end Oe
namespace Oe
open PySem PySem.Spec PyProof.Rows L2
def spA (K : PySem.W.Frag) : Sp := fun vs H Q _ => vs.length = 1 ∧ ∃ a l, vs = [.ref a] ∧ SqL K H a (l.map V.int) ∧ l.length ≤ 20000 ∧ PyVaflxk.answers_asked l = true ∧ ∀ (H' : Hp) (p : Addr), H' p = some (.lst (vI (PyVaflxk.answers l))) → Q (.ref p) H'
end Oe
namespace Oe
open PySem PySem.Spec PyProof.Rows L2
theorem all_mk {P : Program} {w : World} {K : PySem.W.Frag} {h : Heap} {mg : Str → Option Value} {fa : Addr} (X : K.In h) (G : h.Ns mainGlobals mg) (hfa : mg "answers" = some (.ref fa))
    {c_Call : Addr}
    {f_Call_init : Addr}
    {od0 an0 : Option Addr} {sl0 : Array (Option Value)} {oc0 kV0 dc0 pm0 cd0 ct0 : Value}
    {c_Given : Addr}
    {f_Given_init : Addr}
    {od1 an1 : Option Addr} {sl1 : Array (Option Value)} {oc1 kV1 dc1 pm1 cd1 ct1 : Value}
    {f_Given_source : Addr}
    {od2 an2 : Option Addr} {sl2 : Array (Option Value)} {oc2 kV2 dc2 pm2 cd2 ct2 : Value}
    {c_NoOutput : Addr}
    {f_NoOutput_init : Addr}
    {od3 an3 : Option Addr} {sl3 : Array (Option Value)} {oc3 kV3 dc3 pm3 cd3 ct3 : Value}
    {c_Constant : Addr}
    {f_Constant_init : Addr}
    {od4 an4 : Option Addr} {sl4 : Array (Option Value)} {oc4 kV4 dc4 pm4 cd4 ct4 : Value}
    {f_Constant_given_on : Addr}
    {od5 an5 : Option Addr} {sl5 : Array (Option Value)} {oc5 kV5 dc5 pm5 cd5 ct5 : Value}
    {c_Part : Addr}
    {f_Part_init : Addr}
    {od6 an6 : Option Addr} {sl6 : Array (Option Value)} {oc6 kV6 dc6 pm6 cd6 ct6 : Value}
    {f_Part_given_on : Addr}
    {od7 an7 : Option Addr} {sl7 : Array (Option Value)} {oc7 kV7 dc7 pm7 cd7 ct7 : Value}
    {c_NoSuchPlace : Addr}
    {c_NoSuchText : Addr}
    {c_NoPart : Addr}
    {c_NotLedBack : Addr}
    {c_Edit : Addr}
    {f_Edit_init : Addr}
    {od8 an8 : Option Addr} {sl8 : Array (Option Value)} {oc8 kV8 dc8 pm8 cd8 ct8 : Value}
    {c_Shown : Addr}
    {f_Shown_init : Addr}
    {od9 an9 : Option Addr} {sl9 : Array (Option Value)} {oc9 kV9 dc9 pm9 cd9 ct9 : Value}
    {c_FromStart : Addr}
    {f_FromStart_init : Addr}
    {od10 an10 : Option Addr} {sl10 : Array (Option Value)} {oc10 kV10 dc10 pm10 cd10 ct10 : Value}
    {f_FromStart_place_in : Addr}
    {od11 an11 : Option Addr} {sl11 : Array (Option Value)} {oc11 kV11 dc11 pm11 cd11 ct11 : Value}
    {c_FromEnd : Addr}
    {f_FromEnd_init : Addr}
    {od12 an12 : Option Addr} {sl12 : Array (Option Value)} {oc12 kV12 dc12 pm12 cd12 ct12 : Value}
    {f_FromEnd_place_in : Addr}
    {od13 an13 : Option Addr} {sl13 : Array (Option Value)} {oc13 kV13 dc13 pm13 cd13 ct13 : Value}
    {c_Border : Addr}
    {f_Border_init : Addr}
    {od14 an14 : Option Addr} {sl14 : Array (Option Value)} {oc14 kV14 dc14 pm14 cd14 ct14 : Value}
    {f_Border_place_in : Addr}
    {od15 an15 : Option Addr} {sl15 : Array (Option Value)} {oc15 kV15 dc15 pm15 cd15 ct15 : Value}
    {c_Fault : Addr}
    {f_Fault_init : Addr}
    {od16 an16 : Option Addr} {sl16 : Array (Option Value)} {oc16 kV16 dc16 pm16 cd16 ct16 : Value}
    {c_Reader : Addr}
    {f_Reader_init : Addr}
    {od17 an17 : Option Addr} {sl17 : Array (Option Value)} {oc17 kV17 dc17 pm17 cd17 ct17 : Value}
    {f_Reader_stands_within : Addr}
    {od18 an18 : Option Addr} {sl18 : Array (Option Value)} {oc18 kV18 dc18 pm18 cd18 ct18 : Value}
    {f_Reader_stands : Addr}
    {od19 an19 : Option Addr} {sl19 : Array (Option Value)} {oc19 kV19 dc19 pm19 cd19 ct19 : Value}
    {f_Reader_skip : Addr}
    {od20 an20 : Option Addr} {sl20 : Array (Option Value)} {oc20 kV20 dc20 pm20 cd20 ct20 : Value}
    {f_Reader_take : Addr}
    {od21 an21 : Option Addr} {sl21 : Array (Option Value)} {oc21 kV21 dc21 pm21 cd21 ct21 : Value}
    {f_Reader_need : Addr}
    {od22 an22 : Option Addr} {sl22 : Array (Option Value)} {oc22 kV22 dc22 pm22 cd22 ct22 : Value}
    {f_Reader_need_end : Addr}
    {od23 an23 : Option Addr} {sl23 : Array (Option Value)} {oc23 kV23 dc23 pm23 cd23 ct23 : Value}
    {c_Desk : Addr}
    {f_Desk_init : Addr}
    {od24 an24 : Option Addr} {sl24 : Array (Option Value)} {oc24 kV24 dc24 pm24 cd24 ct24 : Value}
    {f_split_calls : Addr}
    {od25 an25 : Option Addr} {sl25 : Array (Option Value)} {oc25 kV25 dc25 pm25 cd25 ct25 : Value}
    {f_capital : Addr}
    {od26 an26 : Option Addr} {sl26 : Array (Option Value)} {oc26 kV26 dc26 pm26 cd26 ct26 : Value}
    {f_small : Addr}
    {od27 an27 : Option Addr} {sl27 : Array (Option Value)} {oc27 kV27 dc27 pm27 cd27 ct27 : Value}
    {f_turned : Addr}
    {od28 an28 : Option Addr} {sl28 : Array (Option Value)} {oc28 kV28 dc28 pm28 cd28 ct28 : Value}
    {f_all_given : Addr}
    {od29 an29 : Option Addr} {sl29 : Array (Option Value)} {oc29 kV29 dc29 pm29 cd29 ct29 : Value}
    {f_joined : Addr}
    {od30 an30 : Option Addr} {sl30 : Array (Option Value)} {oc30 kV30 dc30 pm30 cd30 ct30 : Value}
    {f_is_plain : Addr}
    {od31 an31 : Option Addr} {sl31 : Array (Option Value)} {oc31 kV31 dc31 pm31 cd31 ct31 : Value}
    {f_is_field : Addr}
    {od32 an32 : Option Addr} {sl32 : Array (Option Value)} {oc32 kV32 dc32 pm32 cd32 ct32 : Value}
    {f_is_record : Addr}
    {od33 an33 : Option Addr} {sl33 : Array (Option Value)} {oc33 kV33 dc33 pm33 cd33 ct33 : Value}
    {f_split_texts : Addr}
    {od34 an34 : Option Addr} {sl34 : Array (Option Value)} {oc34 kV34 dc34 pm34 cd34 ct34 : Value}
    {f_told_record : Addr}
    {od35 an35 : Option Addr} {sl35 : Array (Option Value)} {oc35 kV35 dc35 pm35 cd35 ct35 : Value}
    {f_need_text : Addr}
    {od36 an36 : Option Addr} {sl36 : Array (Option Value)} {oc36 kV36 dc36 pm36 cd36 ct36 : Value}
    {f_common_beginning : Addr}
    {od37 an37 : Option Addr} {sl37 : Array (Option Value)} {oc37 kV37 dc37 pm37 cd37 ct37 : Value}
    {f_common_end : Addr}
    {od38 an38 : Option Addr} {sl38 : Array (Option Value)} {oc38 kV38 dc38 pm38 cd38 ct38 : Value}
    {f_narrowed : Addr}
    {od39 an39 : Option Addr} {sl39 : Array (Option Value)} {oc39 kV39 dc39 pm39 cd39 ct39 : Value}
    {f_holders : Addr}
    {od40 an40 : Option Addr} {sl40 : Array (Option Value)} {oc40 kV40 dc40 pm40 cd40 ct40 : Value}
    {f_changed_record : Addr}
    {od41 an41 : Option Addr} {sl41 : Array (Option Value)} {oc41 kV41 dc41 pm41 cd41 ct41 : Value}
    {f_gives : Addr}
    {od42 an42 : Option Addr} {sl42 : Array (Option Value)} {oc42 kV42 dc42 pm42 cd42 ct42 : Value}
    {f_led_back : Addr}
    {od43 an43 : Option Addr} {sl43 : Array (Option Value)} {oc43 kV43 dc43 pm43 cd43 ct43 : Value}
    {f_is_led_back : Addr}
    {od44 an44 : Option Addr} {sl44 : Array (Option Value)} {oc44 kV44 dc44 pm44 cd44 ct44 : Value}
    {f_whole_edit : Addr}
    {od45 an45 : Option Addr} {sl45 : Array (Option Value)} {oc45 kV45 dc45 pm45 cd45 ct45 : Value}
    {f_free_bytes : Addr}
    {od46 an46 : Option Addr} {sl46 : Array (Option Value)} {oc46 kV46 dc46 pm46 cd46 ct46 : Value}
    {f_in_spans : Addr}
    {od47 an47 : Option Addr} {sl47 : Array (Option Value)} {oc47 kV47 dc47 pm47 cd47 ct47 : Value}
    {f_is_letter_or_digit : Addr}
    {od48 an48 : Option Addr} {sl48 : Array (Option Value)} {oc48 kV48 dc48 pm48 cd48 ct48 : Value}
    {f_stands_behind : Addr}
    {od49 an49 : Option Addr} {sl49 : Array (Option Value)} {oc49 kV49 dc49 pm49 cd49 ct49 : Value}
    {f_begins : Addr}
    {od50 an50 : Option Addr} {sl50 : Array (Option Value)} {oc50 kV50 dc50 pm50 cd50 ct50 : Value}
    {f_ends : Addr}
    {od51 an51 : Option Addr} {sl51 : Array (Option Value)} {oc51 kV51 dc51 pm51 cd51 ct51 : Value}
    {f_borders : Addr}
    {od52 an52 : Option Addr} {sl52 : Array (Option Value)} {oc52 kV52 dc52 pm52 cd52 ct52 : Value}
    {f_read_program : Addr}
    {od53 an53 : Option Addr} {sl53 : Array (Option Value)} {oc53 kV53 dc53 pm53 cd53 ct53 : Value}
    {f_read_piece : Addr}
    {od54 an54 : Option Addr} {sl54 : Array (Option Value)} {oc54 kV54 dc54 pm54 cd54 ct54 : Value}
    {f_read_constant : Addr}
    {od55 an55 : Option Addr} {sl55 : Array (Option Value)} {oc55 kV55 dc55 pm55 cd55 ct55 : Value}
    {f_read_part : Addr}
    {od56 an56 : Option Addr} {sl56 : Array (Option Value)} {oc56 kV56 dc56 pm56 cd56 ct56 : Value}
    {f_read_turn : Addr}
    {od57 an57 : Option Addr} {sl57 : Array (Option Value)} {oc57 kV57 dc57 pm57 cd57 ct57 : Value}
    {f_read_position : Addr}
    {od58 an58 : Option Addr} {sl58 : Array (Option Value)} {oc58 kV58 dc58 pm58 cd58 ct58 : Value}
    {f_read_border : Addr}
    {od59 an59 : Option Addr} {sl59 : Array (Option Value)} {oc59 kV59 dc59 pm59 cd59 ct59 : Value}
    {f_read_class : Addr}
    {od60 an60 : Option Addr} {sl60 : Array (Option Value)} {oc60 kV60 dc60 pm60 cd60 ct60 : Value}
    {f_read_quoted : Addr}
    {od61 an61 : Option Addr} {sl61 : Array (Option Value)} {oc61 kV61 dc61 pm61 cd61 ct61 : Value}
    {f_read_digit : Addr}
    {od62 an62 : Option Addr} {sl62 : Array (Option Value)} {oc62 kV62 dc62 pm62 cd62 ct62 : Value}
    {f_read_number : Addr}
    {od63 an63 : Option Addr} {sl63 : Array (Option Value)} {oc63 kV63 dc63 pm63 cd63 ct63 : Value}
    {f_answer_program : Addr}
    {od64 an64 : Option Addr} {sl64 : Array (Option Value)} {oc64 kV64 dc64 pm64 cd64 ct64 : Value}
    {f_answer_record : Addr}
    {od65 an65 : Option Addr} {sl65 : Array (Option Value)} {oc65 kV65 dc65 pm65 cd65 ct65 : Value}
    {f_answer_output : Addr}
    {od66 an66 : Option Addr} {sl66 : Array (Option Value)} {oc66 kV66 dc66 pm66 cd66 ct66 : Value}
    {f_answer_fields : Addr}
    {od67 an67 : Option Addr} {sl67 : Array (Option Value)} {oc67 kV67 dc67 pm67 cd67 ct67 : Value}
    {f_answer_sources : Addr}
    {od68 an68 : Option Addr} {sl68 : Array (Option Value)} {oc68 kV68 dc68 pm68 cd68 ct68 : Value}
    {f_answer_piece : Addr}
    {od69 an69 : Option Addr} {sl69 : Array (Option Value)} {oc69 kV69 dc69 pm69 cd69 ct69 : Value}
    {f_answer_spread : Addr}
    {od70 an70 : Option Addr} {sl70 : Array (Option Value)} {oc70 kV70 dc70 pm70 cd70 ct70 : Value}
    {f_edited_record : Addr}
    {od71 an71 : Option Addr} {sl71 : Array (Option Value)} {oc71 kV71 dc71 pm71 cd71 ct71 : Value}
    {f_change_record : Addr}
    {od72 an72 : Option Addr} {sl72 : Array (Option Value)} {oc72 kV72 dc72 pm72 cd72 ct72 : Value}
    {f_answer_could : Addr}
    {od73 an73 : Option Addr} {sl73 : Array (Option Value)} {oc73 kV73 dc73 pm73 cd73 ct73 : Value}
    {f_answer_edit : Addr}
    {od74 an74 : Option Addr} {sl74 : Array (Option Value)} {oc74 kV74 dc74 pm74 cd74 ct74 : Value}
    {f_answer_whole : Addr}
    {od75 an75 : Option Addr} {sl75 : Array (Option Value)} {oc75 kV75 dc75 pm75 cd75 ct75 : Value}
    {f_answer_free : Addr}
    {od76 an76 : Option Addr} {sl76 : Array (Option Value)} {oc76 kV76 dc76 pm76 cd76 ct76 : Value}
    {f_answer_undo : Addr}
    {od77 an77 : Option Addr} {sl77 : Array (Option Value)} {oc77 kV77 dc77 pm77 cd77 ct77 : Value}
    {f_answer_call : Addr}
    {od78 an78 : Option Addr} {sl78 : Array (Option Value)} {oc78 kV78 dc78 pm78 cd78 ct78 : Value}
    {f_answers : Addr}
    {od79 an79 : Option Addr} {sl79 : Array (Option Value)} {oc79 kV79 dc79 pm79 cd79 ct79 : Value}
    {g_SHAPES : Addr}
    {g_LETTERS_AND_DIGITS : Addr}
    {g_CLASSES : Addr}
    {g_ANSWERERS : Addr}
    (a_Call : PySem.W.nsIn K mainGlobals "Call" = some (some (.ref c_Call)))
    (cl_Call : Cls K c_Call)
    (mk_Call : Mk K c_Call f_Call_init)
    (n_Call_kind : NoAttr K c_Call "kind")
    (n_Call_numbers : NoAttr K c_Call "numbers")
    (n_Call_row : NoAttr K c_Call "row")
    (l_Call_init : K.lookup f_Call_init = some ⟨oc0, od0, .func (PySem.W.fnOf "__init__" "Call.__init__" (defArgs s_Call_init) (defBody s_Call_init) (defScope s_Call_init) .none kV0 dc0 pm0 an0 cd0 ct0), sl0⟩)
    (c_Call_init : PySem.W.codeIn K cd0 "Call.__init__" = true)
    (k_Call_init : PySem.W.keepIn K (.ref f_Call_init) = true)
    (a_Given : PySem.W.nsIn K mainGlobals "Given" = some (some (.ref c_Given)))
    (cl_Given : Cls K c_Given)
    (mk_Given : Mk K c_Given f_Given_init)
    (n_Given_text : NoAttr K c_Given "text")
    (n_Given_field : NoAttr K c_Given "field")
    (n_Given_start : NoAttr K c_Given "start")
    (l_Given_init : K.lookup f_Given_init = some ⟨oc1, od1, .func (PySem.W.fnOf "__init__" "Given.__init__" (defArgs s_Given_init) (defBody s_Given_init) (defScope s_Given_init) .none kV1 dc1 pm1 an1 cd1 ct1), sl1⟩)
    (c_Given_init : PySem.W.codeIn K cd1 "Given.__init__" = true)
    (k_Given_init : PySem.W.keepIn K (.ref f_Given_init) = true)
    (me_Given_source : Meth K c_Given "source" f_Given_source)
    (l_Given_source : K.lookup f_Given_source = some ⟨oc2, od2, .func (PySem.W.fnOf "source" "Given.source" (defArgs s_Given_source) (defBody s_Given_source) (defScope s_Given_source) .none kV2 dc2 pm2 an2 cd2 ct2), sl2⟩)
    (c_Given_source : PySem.W.codeIn K cd2 "Given.source" = true)
    (k_Given_source : PySem.W.keepIn K (.ref f_Given_source) = true)
    (a_NoOutput : PySem.W.nsIn K mainGlobals "NoOutput" = some (some (.ref c_NoOutput)))
    (X_NoOutput : PySem.OeX.ErrC K c_NoOutput f_NoOutput_init)
    (n_NoOutput_piece : PySem.W.findIn K (.ref c_NoOutput) "piece" = some none)
    (l_NoOutput_init : K.lookup f_NoOutput_init = some ⟨oc3, od3, .func (PySem.W.fnOf "__init__" "NoOutput.__init__" (defArgs s_NoOutput_init) (defBody s_NoOutput_init) (defScope s_NoOutput_init) .none kV3 dc3 pm3 an3 cd3 ct3), sl3⟩)
    (c_NoOutput_init : PySem.W.codeIn K cd3 "NoOutput.__init__" = true)
    (k_NoOutput_init : PySem.W.keepIn K (.ref f_NoOutput_init) = true)
    (a_Constant : PySem.W.nsIn K mainGlobals "Constant" = some (some (.ref c_Constant)))
    (cl_Constant : Cls K c_Constant)
    (mk_Constant : Mk K c_Constant f_Constant_init)
    (n_Constant_text : NoAttr K c_Constant "text")
    (l_Constant_init : K.lookup f_Constant_init = some ⟨oc4, od4, .func (PySem.W.fnOf "__init__" "Constant.__init__" (defArgs s_Constant_init) (defBody s_Constant_init) (defScope s_Constant_init) .none kV4 dc4 pm4 an4 cd4 ct4), sl4⟩)
    (c_Constant_init : PySem.W.codeIn K cd4 "Constant.__init__" = true)
    (k_Constant_init : PySem.W.keepIn K (.ref f_Constant_init) = true)
    (me_Constant_given_on : Meth K c_Constant "given_on" f_Constant_given_on)
    (l_Constant_given_on : K.lookup f_Constant_given_on = some ⟨oc5, od5, .func (PySem.W.fnOf "given_on" "Constant.given_on" (defArgs s_Constant_given_on) (defBody s_Constant_given_on) (defScope s_Constant_given_on) .none kV5 dc5 pm5 an5 cd5 ct5), sl5⟩)
    (c_Constant_given_on : PySem.W.codeIn K cd5 "Constant.given_on" = true)
    (k_Constant_given_on : PySem.W.keepIn K (.ref f_Constant_given_on) = true)
    (a_Part : PySem.W.nsIn K mainGlobals "Part" = some (some (.ref c_Part)))
    (cl_Part : Cls K c_Part)
    (mk_Part : Mk K c_Part f_Part_init)
    (n_Part_field : NoAttr K c_Part "field")
    (n_Part_first : NoAttr K c_Part "first")
    (n_Part_last : NoAttr K c_Part "last")
    (n_Part_turn : NoAttr K c_Part "turn")
    (l_Part_init : K.lookup f_Part_init = some ⟨oc6, od6, .func (PySem.W.fnOf "__init__" "Part.__init__" (defArgs s_Part_init) (defBody s_Part_init) (defScope s_Part_init) .none kV6 dc6 pm6 an6 cd6 ct6), sl6⟩)
    (c_Part_init : PySem.W.codeIn K cd6 "Part.__init__" = true)
    (k_Part_init : PySem.W.keepIn K (.ref f_Part_init) = true)
    (me_Part_given_on : Meth K c_Part "given_on" f_Part_given_on)
    (l_Part_given_on : K.lookup f_Part_given_on = some ⟨oc7, od7, .func (PySem.W.fnOf "given_on" "Part.given_on" (defArgs s_Part_given_on) (defBody s_Part_given_on) (defScope s_Part_given_on) .none kV7 dc7 pm7 an7 cd7 ct7), sl7⟩)
    (c_Part_given_on : PySem.W.codeIn K cd7 "Part.given_on" = true)
    (k_Part_given_on : PySem.W.keepIn K (.ref f_Part_given_on) = true)
    (a_NoSuchPlace : PySem.W.nsIn K mainGlobals "NoSuchPlace" = some (some (.ref c_NoSuchPlace)))
    (pe_NoSuchPlace : PErr K mg c_NoSuchPlace "NoSuchPlace")
    (a_NoSuchText : PySem.W.nsIn K mainGlobals "NoSuchText" = some (some (.ref c_NoSuchText)))
    (pe_NoSuchText : PErr K mg c_NoSuchText "NoSuchText")
    (a_NoPart : PySem.W.nsIn K mainGlobals "NoPart" = some (some (.ref c_NoPart)))
    (pe_NoPart : PErr K mg c_NoPart "NoPart")
    (a_NotLedBack : PySem.W.nsIn K mainGlobals "NotLedBack" = some (some (.ref c_NotLedBack)))
    (pe_NotLedBack : PErr K mg c_NotLedBack "NotLedBack")
    (a_Edit : PySem.W.nsIn K mainGlobals "Edit" = some (some (.ref c_Edit)))
    (cl_Edit : Cls K c_Edit)
    (mk_Edit : Mk K c_Edit f_Edit_init)
    (n_Edit_start : NoAttr K c_Edit "start")
    (n_Edit_end : NoAttr K c_Edit "end")
    (n_Edit_text : NoAttr K c_Edit "text")
    (l_Edit_init : K.lookup f_Edit_init = some ⟨oc8, od8, .func (PySem.W.fnOf "__init__" "Edit.__init__" (defArgs s_Edit_init) (defBody s_Edit_init) (defScope s_Edit_init) .none kV8 dc8 pm8 an8 cd8 ct8), sl8⟩)
    (c_Edit_init : PySem.W.codeIn K cd8 "Edit.__init__" = true)
    (k_Edit_init : PySem.W.keepIn K (.ref f_Edit_init) = true)
    (a_Shown : PySem.W.nsIn K mainGlobals "Shown" = some (some (.ref c_Shown)))
    (cl_Shown : Cls K c_Shown)
    (mk_Shown : Mk K c_Shown f_Shown_init)
    (n_Shown_program : NoAttr K c_Shown "program")
    (n_Shown_record : NoAttr K c_Shown "record")
    (n_Shown_givens : NoAttr K c_Shown "givens")
    (n_Shown_output : NoAttr K c_Shown "output")
    (l_Shown_init : K.lookup f_Shown_init = some ⟨oc9, od9, .func (PySem.W.fnOf "__init__" "Shown.__init__" (defArgs s_Shown_init) (defBody s_Shown_init) (defScope s_Shown_init) .none kV9 dc9 pm9 an9 cd9 ct9), sl9⟩)
    (c_Shown_init : PySem.W.codeIn K cd9 "Shown.__init__" = true)
    (k_Shown_init : PySem.W.keepIn K (.ref f_Shown_init) = true)
    (a_FromStart : PySem.W.nsIn K mainGlobals "FromStart" = some (some (.ref c_FromStart)))
    (cl_FromStart : Cls K c_FromStart)
    (mk_FromStart : Mk K c_FromStart f_FromStart_init)
    (n_FromStart_distance : NoAttr K c_FromStart "distance")
    (l_FromStart_init : K.lookup f_FromStart_init = some ⟨oc10, od10, .func (PySem.W.fnOf "__init__" "FromStart.__init__" (defArgs s_FromStart_init) (defBody s_FromStart_init) (defScope s_FromStart_init) .none kV10 dc10 pm10 an10 cd10 ct10), sl10⟩)
    (c_FromStart_init : PySem.W.codeIn K cd10 "FromStart.__init__" = true)
    (k_FromStart_init : PySem.W.keepIn K (.ref f_FromStart_init) = true)
    (me_FromStart_place_in : Meth K c_FromStart "place_in" f_FromStart_place_in)
    (l_FromStart_place_in : K.lookup f_FromStart_place_in = some ⟨oc11, od11, .func (PySem.W.fnOf "place_in" "FromStart.place_in" (defArgs s_FromStart_place_in) (defBody s_FromStart_place_in) (defScope s_FromStart_place_in) .none kV11 dc11 pm11 an11 cd11 ct11), sl11⟩)
    (c_FromStart_place_in : PySem.W.codeIn K cd11 "FromStart.place_in" = true)
    (k_FromStart_place_in : PySem.W.keepIn K (.ref f_FromStart_place_in) = true)
    (a_FromEnd : PySem.W.nsIn K mainGlobals "FromEnd" = some (some (.ref c_FromEnd)))
    (cl_FromEnd : Cls K c_FromEnd)
    (mk_FromEnd : Mk K c_FromEnd f_FromEnd_init)
    (n_FromEnd_distance : NoAttr K c_FromEnd "distance")
    (l_FromEnd_init : K.lookup f_FromEnd_init = some ⟨oc12, od12, .func (PySem.W.fnOf "__init__" "FromEnd.__init__" (defArgs s_FromEnd_init) (defBody s_FromEnd_init) (defScope s_FromEnd_init) .none kV12 dc12 pm12 an12 cd12 ct12), sl12⟩)
    (c_FromEnd_init : PySem.W.codeIn K cd12 "FromEnd.__init__" = true)
    (k_FromEnd_init : PySem.W.keepIn K (.ref f_FromEnd_init) = true)
    (me_FromEnd_place_in : Meth K c_FromEnd "place_in" f_FromEnd_place_in)
    (l_FromEnd_place_in : K.lookup f_FromEnd_place_in = some ⟨oc13, od13, .func (PySem.W.fnOf "place_in" "FromEnd.place_in" (defArgs s_FromEnd_place_in) (defBody s_FromEnd_place_in) (defScope s_FromEnd_place_in) .none kV13 dc13 pm13 an13 cd13 ct13), sl13⟩)
    (c_FromEnd_place_in : PySem.W.codeIn K cd13 "FromEnd.place_in" = true)
    (k_FromEnd_place_in : PySem.W.keepIn K (.ref f_FromEnd_place_in) = true)
    (a_Border : PySem.W.nsIn K mainGlobals "Border" = some (some (.ref c_Border)))
    (cl_Border : Cls K c_Border)
    (mk_Border : Mk K c_Border f_Border_init)
    (n_Border_left : NoAttr K c_Border "left")
    (n_Border_right : NoAttr K c_Border "right")
    (n_Border_nth : NoAttr K c_Border "nth")
    (n_Border_from_right : NoAttr K c_Border "from_right")
    (l_Border_init : K.lookup f_Border_init = some ⟨oc14, od14, .func (PySem.W.fnOf "__init__" "Border.__init__" (defArgs s_Border_init) (defBody s_Border_init) (defScope s_Border_init) .none kV14 dc14 pm14 an14 cd14 ct14), sl14⟩)
    (c_Border_init : PySem.W.codeIn K cd14 "Border.__init__" = true)
    (k_Border_init : PySem.W.keepIn K (.ref f_Border_init) = true)
    (me_Border_place_in : Meth K c_Border "place_in" f_Border_place_in)
    (l_Border_place_in : K.lookup f_Border_place_in = some ⟨oc15, od15, .func (PySem.W.fnOf "place_in" "Border.place_in" (defArgs s_Border_place_in) (defBody s_Border_place_in) (defScope s_Border_place_in) .none kV15 dc15 pm15 an15 cd15 ct15), sl15⟩)
    (c_Border_place_in : PySem.W.codeIn K cd15 "Border.place_in" = true)
    (k_Border_place_in : PySem.W.keepIn K (.ref f_Border_place_in) = true)
    (a_Fault : PySem.W.nsIn K mainGlobals "Fault" = some (some (.ref c_Fault)))
    (X_Fault : PySem.OeX.ErrC K c_Fault f_Fault_init)
    (n_Fault_kind : PySem.W.findIn K (.ref c_Fault) "kind" = some none)
    (n_Fault_place : PySem.W.findIn K (.ref c_Fault) "place" = some none)
    (l_Fault_init : K.lookup f_Fault_init = some ⟨oc16, od16, .func (PySem.W.fnOf "__init__" "Fault.__init__" (defArgs s_Fault_init) (defBody s_Fault_init) (defScope s_Fault_init) .none kV16 dc16 pm16 an16 cd16 ct16), sl16⟩)
    (c_Fault_init : PySem.W.codeIn K cd16 "Fault.__init__" = true)
    (k_Fault_init : PySem.W.keepIn K (.ref f_Fault_init) = true)
    (a_Reader : PySem.W.nsIn K mainGlobals "Reader" = some (some (.ref c_Reader)))
    (cl_Reader : Cls K c_Reader)
    (mk_Reader : Mk K c_Reader f_Reader_init)
    (n_Reader_text : NoAttr K c_Reader "text")
    (n_Reader_place : NoAttr K c_Reader "place")
    (l_Reader_init : K.lookup f_Reader_init = some ⟨oc17, od17, .func (PySem.W.fnOf "__init__" "Reader.__init__" (defArgs s_Reader_init) (defBody s_Reader_init) (defScope s_Reader_init) .none kV17 dc17 pm17 an17 cd17 ct17), sl17⟩)
    (c_Reader_init : PySem.W.codeIn K cd17 "Reader.__init__" = true)
    (k_Reader_init : PySem.W.keepIn K (.ref f_Reader_init) = true)
    (me_Reader_stands_within : Meth K c_Reader "stands_within" f_Reader_stands_within)
    (l_Reader_stands_within : K.lookup f_Reader_stands_within = some ⟨oc18, od18, .func (PySem.W.fnOf "stands_within" "Reader.stands_within" (defArgs s_Reader_stands_within) (defBody s_Reader_stands_within) (defScope s_Reader_stands_within) .none kV18 dc18 pm18 an18 cd18 ct18), sl18⟩)
    (c_Reader_stands_within : PySem.W.codeIn K cd18 "Reader.stands_within" = true)
    (k_Reader_stands_within : PySem.W.keepIn K (.ref f_Reader_stands_within) = true)
    (me_Reader_stands : Meth K c_Reader "stands" f_Reader_stands)
    (l_Reader_stands : K.lookup f_Reader_stands = some ⟨oc19, od19, .func (PySem.W.fnOf "stands" "Reader.stands" (defArgs s_Reader_stands) (defBody s_Reader_stands) (defScope s_Reader_stands) .none kV19 dc19 pm19 an19 cd19 ct19), sl19⟩)
    (c_Reader_stands : PySem.W.codeIn K cd19 "Reader.stands" = true)
    (k_Reader_stands : PySem.W.keepIn K (.ref f_Reader_stands) = true)
    (me_Reader_skip : Meth K c_Reader "skip" f_Reader_skip)
    (l_Reader_skip : K.lookup f_Reader_skip = some ⟨oc20, od20, .func (PySem.W.fnOf "skip" "Reader.skip" (defArgs s_Reader_skip) (defBody s_Reader_skip) (defScope s_Reader_skip) .none kV20 dc20 pm20 an20 cd20 ct20), sl20⟩)
    (c_Reader_skip : PySem.W.codeIn K cd20 "Reader.skip" = true)
    (k_Reader_skip : PySem.W.keepIn K (.ref f_Reader_skip) = true)
    (me_Reader_take : Meth K c_Reader "take" f_Reader_take)
    (l_Reader_take : K.lookup f_Reader_take = some ⟨oc21, od21, .func (PySem.W.fnOf "take" "Reader.take" (defArgs s_Reader_take) (defBody s_Reader_take) (defScope s_Reader_take) .none kV21 dc21 pm21 an21 cd21 ct21), sl21⟩)
    (c_Reader_take : PySem.W.codeIn K cd21 "Reader.take" = true)
    (k_Reader_take : PySem.W.keepIn K (.ref f_Reader_take) = true)
    (me_Reader_need : Meth K c_Reader "need" f_Reader_need)
    (l_Reader_need : K.lookup f_Reader_need = some ⟨oc22, od22, .func (PySem.W.fnOf "need" "Reader.need" (defArgs s_Reader_need) (defBody s_Reader_need) (defScope s_Reader_need) .none kV22 dc22 pm22 an22 cd22 ct22), sl22⟩)
    (c_Reader_need : PySem.W.codeIn K cd22 "Reader.need" = true)
    (k_Reader_need : PySem.W.keepIn K (.ref f_Reader_need) = true)
    (me_Reader_need_end : Meth K c_Reader "need_end" f_Reader_need_end)
    (l_Reader_need_end : K.lookup f_Reader_need_end = some ⟨oc23, od23, .func (PySem.W.fnOf "need_end" "Reader.need_end" (defArgs s_Reader_need_end) (defBody s_Reader_need_end) (defScope s_Reader_need_end) .none kV23 dc23 pm23 an23 cd23 ct23), sl23⟩)
    (c_Reader_need_end : PySem.W.codeIn K cd23 "Reader.need_end" = true)
    (k_Reader_need_end : PySem.W.keepIn K (.ref f_Reader_need_end) = true)
    (a_Desk : PySem.W.nsIn K mainGlobals "Desk" = some (some (.ref c_Desk)))
    (cl_Desk : Cls K c_Desk)
    (mk_Desk : Mk K c_Desk f_Desk_init)
    (n_Desk_program : NoAttr K c_Desk "program")
    (n_Desk_record : NoAttr K c_Desk "record")
    (n_Desk_past : NoAttr K c_Desk "past")
    (l_Desk_init : K.lookup f_Desk_init = some ⟨oc24, od24, .func (PySem.W.fnOf "__init__" "Desk.__init__" (defArgs s_Desk_init) (defBody s_Desk_init) (defScope s_Desk_init) .none kV24 dc24 pm24 an24 cd24 ct24), sl24⟩)
    (c_Desk_init : PySem.W.codeIn K cd24 "Desk.__init__" = true)
    (k_Desk_init : PySem.W.keepIn K (.ref f_Desk_init) = true)
    (a_split_calls : PySem.W.nsIn K mainGlobals "split_calls" = some (some (.ref f_split_calls)))
    (l_split_calls : K.lookup f_split_calls = some ⟨oc25, od25, .func (PySem.W.fnOf "split_calls" "split_calls" (defArgs s_split_calls) (defBody s_split_calls) (defScope s_split_calls) .none kV25 dc25 pm25 an25 cd25 ct25), sl25⟩)
    (c_split_calls : PySem.W.codeIn K cd25 "split_calls" = true)
    (k_split_calls : PySem.W.keepIn K (.ref f_split_calls) = true)
    (a_capital : PySem.W.nsIn K mainGlobals "capital" = some (some (.ref f_capital)))
    (l_capital : K.lookup f_capital = some ⟨oc26, od26, .func (PySem.W.fnOf "capital" "capital" (defArgs s_capital) (defBody s_capital) (defScope s_capital) .none kV26 dc26 pm26 an26 cd26 ct26), sl26⟩)
    (c_capital : PySem.W.codeIn K cd26 "capital" = true)
    (k_capital : PySem.W.keepIn K (.ref f_capital) = true)
    (a_small : PySem.W.nsIn K mainGlobals "small" = some (some (.ref f_small)))
    (l_small : K.lookup f_small = some ⟨oc27, od27, .func (PySem.W.fnOf "small" "small" (defArgs s_small) (defBody s_small) (defScope s_small) .none kV27 dc27 pm27 an27 cd27 ct27), sl27⟩)
    (c_small : PySem.W.codeIn K cd27 "small" = true)
    (k_small : PySem.W.keepIn K (.ref f_small) = true)
    (a_turned : PySem.W.nsIn K mainGlobals "turned" = some (some (.ref f_turned)))
    (l_turned : K.lookup f_turned = some ⟨oc28, od28, .func (PySem.W.fnOf "turned" "turned" (defArgs s_turned) (defBody s_turned) (defScope s_turned) .none kV28 dc28 pm28 an28 cd28 ct28), sl28⟩)
    (c_turned : PySem.W.codeIn K cd28 "turned" = true)
    (k_turned : PySem.W.keepIn K (.ref f_turned) = true)
    (a_all_given : PySem.W.nsIn K mainGlobals "all_given" = some (some (.ref f_all_given)))
    (l_all_given : K.lookup f_all_given = some ⟨oc29, od29, .func (PySem.W.fnOf "all_given" "all_given" (defArgs s_all_given) (defBody s_all_given) (defScope s_all_given) .none kV29 dc29 pm29 an29 cd29 ct29), sl29⟩)
    (c_all_given : PySem.W.codeIn K cd29 "all_given" = true)
    (k_all_given : PySem.W.keepIn K (.ref f_all_given) = true)
    (a_joined : PySem.W.nsIn K mainGlobals "joined" = some (some (.ref f_joined)))
    (l_joined : K.lookup f_joined = some ⟨oc30, od30, .func (PySem.W.fnOf "joined" "joined" (defArgs s_joined) (defBody s_joined) (defScope s_joined) .none kV30 dc30 pm30 an30 cd30 ct30), sl30⟩)
    (c_joined : PySem.W.codeIn K cd30 "joined" = true)
    (k_joined : PySem.W.keepIn K (.ref f_joined) = true)
    (a_is_plain : PySem.W.nsIn K mainGlobals "is_plain" = some (some (.ref f_is_plain)))
    (l_is_plain : K.lookup f_is_plain = some ⟨oc31, od31, .func (PySem.W.fnOf "is_plain" "is_plain" (defArgs s_is_plain) (defBody s_is_plain) (defScope s_is_plain) .none kV31 dc31 pm31 an31 cd31 ct31), sl31⟩)
    (c_is_plain : PySem.W.codeIn K cd31 "is_plain" = true)
    (k_is_plain : PySem.W.keepIn K (.ref f_is_plain) = true)
    (a_is_field : PySem.W.nsIn K mainGlobals "is_field" = some (some (.ref f_is_field)))
    (l_is_field : K.lookup f_is_field = some ⟨oc32, od32, .func (PySem.W.fnOf "is_field" "is_field" (defArgs s_is_field) (defBody s_is_field) (defScope s_is_field) .none kV32 dc32 pm32 an32 cd32 ct32), sl32⟩)
    (c_is_field : PySem.W.codeIn K cd32 "is_field" = true)
    (k_is_field : PySem.W.keepIn K (.ref f_is_field) = true)
    (a_is_record : PySem.W.nsIn K mainGlobals "is_record" = some (some (.ref f_is_record)))
    (l_is_record : K.lookup f_is_record = some ⟨oc33, od33, .func (PySem.W.fnOf "is_record" "is_record" (defArgs s_is_record) (defBody s_is_record) (defScope s_is_record) .none kV33 dc33 pm33 an33 cd33 ct33), sl33⟩)
    (c_is_record : PySem.W.codeIn K cd33 "is_record" = true)
    (k_is_record : PySem.W.keepIn K (.ref f_is_record) = true)
    (a_split_texts : PySem.W.nsIn K mainGlobals "split_texts" = some (some (.ref f_split_texts)))
    (l_split_texts : K.lookup f_split_texts = some ⟨oc34, od34, .func (PySem.W.fnOf "split_texts" "split_texts" (defArgs s_split_texts) (defBody s_split_texts) (defScope s_split_texts) .none kV34 dc34 pm34 an34 cd34 ct34), sl34⟩)
    (c_split_texts : PySem.W.codeIn K cd34 "split_texts" = true)
    (k_split_texts : PySem.W.keepIn K (.ref f_split_texts) = true)
    (a_told_record : PySem.W.nsIn K mainGlobals "told_record" = some (some (.ref f_told_record)))
    (l_told_record : K.lookup f_told_record = some ⟨oc35, od35, .func (PySem.W.fnOf "told_record" "told_record" (defArgs s_told_record) (defBody s_told_record) (defScope s_told_record) .none kV35 dc35 pm35 an35 cd35 ct35), sl35⟩)
    (c_told_record : PySem.W.codeIn K cd35 "told_record" = true)
    (k_told_record : PySem.W.keepIn K (.ref f_told_record) = true)
    (a_need_text : PySem.W.nsIn K mainGlobals "need_text" = some (some (.ref f_need_text)))
    (l_need_text : K.lookup f_need_text = some ⟨oc36, od36, .func (PySem.W.fnOf "need_text" "need_text" (defArgs s_need_text) (defBody s_need_text) (defScope s_need_text) .none kV36 dc36 pm36 an36 cd36 ct36), sl36⟩)
    (c_need_text : PySem.W.codeIn K cd36 "need_text" = true)
    (k_need_text : PySem.W.keepIn K (.ref f_need_text) = true)
    (a_common_beginning : PySem.W.nsIn K mainGlobals "common_beginning" = some (some (.ref f_common_beginning)))
    (l_common_beginning : K.lookup f_common_beginning = some ⟨oc37, od37, .func (PySem.W.fnOf "common_beginning" "common_beginning" (defArgs s_common_beginning) (defBody s_common_beginning) (defScope s_common_beginning) .none kV37 dc37 pm37 an37 cd37 ct37), sl37⟩)
    (c_common_beginning : PySem.W.codeIn K cd37 "common_beginning" = true)
    (k_common_beginning : PySem.W.keepIn K (.ref f_common_beginning) = true)
    (a_common_end : PySem.W.nsIn K mainGlobals "common_end" = some (some (.ref f_common_end)))
    (l_common_end : K.lookup f_common_end = some ⟨oc38, od38, .func (PySem.W.fnOf "common_end" "common_end" (defArgs s_common_end) (defBody s_common_end) (defScope s_common_end) .none kV38 dc38 pm38 an38 cd38 ct38), sl38⟩)
    (c_common_end : PySem.W.codeIn K cd38 "common_end" = true)
    (k_common_end : PySem.W.keepIn K (.ref f_common_end) = true)
    (a_narrowed : PySem.W.nsIn K mainGlobals "narrowed" = some (some (.ref f_narrowed)))
    (l_narrowed : K.lookup f_narrowed = some ⟨oc39, od39, .func (PySem.W.fnOf "narrowed" "narrowed" (defArgs s_narrowed) (defBody s_narrowed) (defScope s_narrowed) .none kV39 dc39 pm39 an39 cd39 ct39), sl39⟩)
    (c_narrowed : PySem.W.codeIn K cd39 "narrowed" = true)
    (k_narrowed : PySem.W.keepIn K (.ref f_narrowed) = true)
    (a_holders : PySem.W.nsIn K mainGlobals "holders" = some (some (.ref f_holders)))
    (l_holders : K.lookup f_holders = some ⟨oc40, od40, .func (PySem.W.fnOf "holders" "holders" (defArgs s_holders) (defBody s_holders) (defScope s_holders) .none kV40 dc40 pm40 an40 cd40 ct40), sl40⟩)
    (c_holders : PySem.W.codeIn K cd40 "holders" = true)
    (k_holders : PySem.W.keepIn K (.ref f_holders) = true)
    (a_changed_record : PySem.W.nsIn K mainGlobals "changed_record" = some (some (.ref f_changed_record)))
    (l_changed_record : K.lookup f_changed_record = some ⟨oc41, od41, .func (PySem.W.fnOf "changed_record" "changed_record" (defArgs s_changed_record) (defBody s_changed_record) (defScope s_changed_record) .none kV41 dc41 pm41 an41 cd41 ct41), sl41⟩)
    (c_changed_record : PySem.W.codeIn K cd41 "changed_record" = true)
    (k_changed_record : PySem.W.keepIn K (.ref f_changed_record) = true)
    (a_gives : PySem.W.nsIn K mainGlobals "gives" = some (some (.ref f_gives)))
    (l_gives : K.lookup f_gives = some ⟨oc42, od42, .func (PySem.W.fnOf "gives" "gives" (defArgs s_gives) (defBody s_gives) (defScope s_gives) .none kV42 dc42 pm42 an42 cd42 ct42), sl42⟩)
    (c_gives : PySem.W.codeIn K cd42 "gives" = true)
    (k_gives : PySem.W.keepIn K (.ref f_gives) = true)
    (a_led_back : PySem.W.nsIn K mainGlobals "led_back" = some (some (.ref f_led_back)))
    (l_led_back : K.lookup f_led_back = some ⟨oc43, od43, .func (PySem.W.fnOf "led_back" "led_back" (defArgs s_led_back) (defBody s_led_back) (defScope s_led_back) .none kV43 dc43 pm43 an43 cd43 ct43), sl43⟩)
    (c_led_back : PySem.W.codeIn K cd43 "led_back" = true)
    (k_led_back : PySem.W.keepIn K (.ref f_led_back) = true)
    (a_is_led_back : PySem.W.nsIn K mainGlobals "is_led_back" = some (some (.ref f_is_led_back)))
    (l_is_led_back : K.lookup f_is_led_back = some ⟨oc44, od44, .func (PySem.W.fnOf "is_led_back" "is_led_back" (defArgs s_is_led_back) (defBody s_is_led_back) (defScope s_is_led_back) .none kV44 dc44 pm44 an44 cd44 ct44), sl44⟩)
    (c_is_led_back : PySem.W.codeIn K cd44 "is_led_back" = true)
    (k_is_led_back : PySem.W.keepIn K (.ref f_is_led_back) = true)
    (a_whole_edit : PySem.W.nsIn K mainGlobals "whole_edit" = some (some (.ref f_whole_edit)))
    (l_whole_edit : K.lookup f_whole_edit = some ⟨oc45, od45, .func (PySem.W.fnOf "whole_edit" "whole_edit" (defArgs s_whole_edit) (defBody s_whole_edit) (defScope s_whole_edit) .none kV45 dc45 pm45 an45 cd45 ct45), sl45⟩)
    (c_whole_edit : PySem.W.codeIn K cd45 "whole_edit" = true)
    (k_whole_edit : PySem.W.keepIn K (.ref f_whole_edit) = true)
    (a_free_bytes : PySem.W.nsIn K mainGlobals "free_bytes" = some (some (.ref f_free_bytes)))
    (l_free_bytes : K.lookup f_free_bytes = some ⟨oc46, od46, .func (PySem.W.fnOf "free_bytes" "free_bytes" (defArgs s_free_bytes) (defBody s_free_bytes) (defScope s_free_bytes) .none kV46 dc46 pm46 an46 cd46 ct46), sl46⟩)
    (c_free_bytes : PySem.W.codeIn K cd46 "free_bytes" = true)
    (k_free_bytes : PySem.W.keepIn K (.ref f_free_bytes) = true)
    (a_in_spans : PySem.W.nsIn K mainGlobals "in_spans" = some (some (.ref f_in_spans)))
    (l_in_spans : K.lookup f_in_spans = some ⟨oc47, od47, .func (PySem.W.fnOf "in_spans" "in_spans" (defArgs s_in_spans) (defBody s_in_spans) (defScope s_in_spans) .none kV47 dc47 pm47 an47 cd47 ct47), sl47⟩)
    (c_in_spans : PySem.W.codeIn K cd47 "in_spans" = true)
    (k_in_spans : PySem.W.keepIn K (.ref f_in_spans) = true)
    (a_is_letter_or_digit : PySem.W.nsIn K mainGlobals "is_letter_or_digit" = some (some (.ref f_is_letter_or_digit)))
    (l_is_letter_or_digit : K.lookup f_is_letter_or_digit = some ⟨oc48, od48, .func (PySem.W.fnOf "is_letter_or_digit" "is_letter_or_digit" (defArgs s_is_letter_or_digit) (defBody s_is_letter_or_digit) (defScope s_is_letter_or_digit) .none kV48 dc48 pm48 an48 cd48 ct48), sl48⟩)
    (c_is_letter_or_digit : PySem.W.codeIn K cd48 "is_letter_or_digit" = true)
    (k_is_letter_or_digit : PySem.W.keepIn K (.ref f_is_letter_or_digit) = true)
    (a_stands_behind : PySem.W.nsIn K mainGlobals "stands_behind" = some (some (.ref f_stands_behind)))
    (l_stands_behind : K.lookup f_stands_behind = some ⟨oc49, od49, .func (PySem.W.fnOf "stands_behind" "stands_behind" (defArgs s_stands_behind) (defBody s_stands_behind) (defScope s_stands_behind) .none kV49 dc49 pm49 an49 cd49 ct49), sl49⟩)
    (c_stands_behind : PySem.W.codeIn K cd49 "stands_behind" = true)
    (k_stands_behind : PySem.W.keepIn K (.ref f_stands_behind) = true)
    (a_begins : PySem.W.nsIn K mainGlobals "begins" = some (some (.ref f_begins)))
    (l_begins : K.lookup f_begins = some ⟨oc50, od50, .func (PySem.W.fnOf "begins" "begins" (defArgs s_begins) (defBody s_begins) (defScope s_begins) .none kV50 dc50 pm50 an50 cd50 ct50), sl50⟩)
    (c_begins : PySem.W.codeIn K cd50 "begins" = true)
    (k_begins : PySem.W.keepIn K (.ref f_begins) = true)
    (a_ends : PySem.W.nsIn K mainGlobals "ends" = some (some (.ref f_ends)))
    (l_ends : K.lookup f_ends = some ⟨oc51, od51, .func (PySem.W.fnOf "ends" "ends" (defArgs s_ends) (defBody s_ends) (defScope s_ends) .none kV51 dc51 pm51 an51 cd51 ct51), sl51⟩)
    (c_ends : PySem.W.codeIn K cd51 "ends" = true)
    (k_ends : PySem.W.keepIn K (.ref f_ends) = true)
    (a_borders : PySem.W.nsIn K mainGlobals "borders" = some (some (.ref f_borders)))
    (l_borders : K.lookup f_borders = some ⟨oc52, od52, .func (PySem.W.fnOf "borders" "borders" (defArgs s_borders) (defBody s_borders) (defScope s_borders) .none kV52 dc52 pm52 an52 cd52 ct52), sl52⟩)
    (c_borders : PySem.W.codeIn K cd52 "borders" = true)
    (k_borders : PySem.W.keepIn K (.ref f_borders) = true)
    (a_read_program : PySem.W.nsIn K mainGlobals "read_program" = some (some (.ref f_read_program)))
    (l_read_program : K.lookup f_read_program = some ⟨oc53, od53, .func (PySem.W.fnOf "read_program" "read_program" (defArgs s_read_program) (defBody s_read_program) (defScope s_read_program) .none kV53 dc53 pm53 an53 cd53 ct53), sl53⟩)
    (c_read_program : PySem.W.codeIn K cd53 "read_program" = true)
    (k_read_program : PySem.W.keepIn K (.ref f_read_program) = true)
    (a_read_piece : PySem.W.nsIn K mainGlobals "read_piece" = some (some (.ref f_read_piece)))
    (l_read_piece : K.lookup f_read_piece = some ⟨oc54, od54, .func (PySem.W.fnOf "read_piece" "read_piece" (defArgs s_read_piece) (defBody s_read_piece) (defScope s_read_piece) .none kV54 dc54 pm54 an54 cd54 ct54), sl54⟩)
    (c_read_piece : PySem.W.codeIn K cd54 "read_piece" = true)
    (k_read_piece : PySem.W.keepIn K (.ref f_read_piece) = true)
    (a_read_constant : PySem.W.nsIn K mainGlobals "read_constant" = some (some (.ref f_read_constant)))
    (l_read_constant : K.lookup f_read_constant = some ⟨oc55, od55, .func (PySem.W.fnOf "read_constant" "read_constant" (defArgs s_read_constant) (defBody s_read_constant) (defScope s_read_constant) .none kV55 dc55 pm55 an55 cd55 ct55), sl55⟩)
    (c_read_constant : PySem.W.codeIn K cd55 "read_constant" = true)
    (k_read_constant : PySem.W.keepIn K (.ref f_read_constant) = true)
    (a_read_part : PySem.W.nsIn K mainGlobals "read_part" = some (some (.ref f_read_part)))
    (l_read_part : K.lookup f_read_part = some ⟨oc56, od56, .func (PySem.W.fnOf "read_part" "read_part" (defArgs s_read_part) (defBody s_read_part) (defScope s_read_part) .none kV56 dc56 pm56 an56 cd56 ct56), sl56⟩)
    (c_read_part : PySem.W.codeIn K cd56 "read_part" = true)
    (k_read_part : PySem.W.keepIn K (.ref f_read_part) = true)
    (a_read_turn : PySem.W.nsIn K mainGlobals "read_turn" = some (some (.ref f_read_turn)))
    (l_read_turn : K.lookup f_read_turn = some ⟨oc57, od57, .func (PySem.W.fnOf "read_turn" "read_turn" (defArgs s_read_turn) (defBody s_read_turn) (defScope s_read_turn) .none kV57 dc57 pm57 an57 cd57 ct57), sl57⟩)
    (c_read_turn : PySem.W.codeIn K cd57 "read_turn" = true)
    (k_read_turn : PySem.W.keepIn K (.ref f_read_turn) = true)
    (a_read_position : PySem.W.nsIn K mainGlobals "read_position" = some (some (.ref f_read_position)))
    (l_read_position : K.lookup f_read_position = some ⟨oc58, od58, .func (PySem.W.fnOf "read_position" "read_position" (defArgs s_read_position) (defBody s_read_position) (defScope s_read_position) .none kV58 dc58 pm58 an58 cd58 ct58), sl58⟩)
    (c_read_position : PySem.W.codeIn K cd58 "read_position" = true)
    (k_read_position : PySem.W.keepIn K (.ref f_read_position) = true)
    (a_read_border : PySem.W.nsIn K mainGlobals "read_border" = some (some (.ref f_read_border)))
    (l_read_border : K.lookup f_read_border = some ⟨oc59, od59, .func (PySem.W.fnOf "read_border" "read_border" (defArgs s_read_border) (defBody s_read_border) (defScope s_read_border) .none kV59 dc59 pm59 an59 cd59 ct59), sl59⟩)
    (c_read_border : PySem.W.codeIn K cd59 "read_border" = true)
    (k_read_border : PySem.W.keepIn K (.ref f_read_border) = true)
    (a_read_class : PySem.W.nsIn K mainGlobals "read_class" = some (some (.ref f_read_class)))
    (l_read_class : K.lookup f_read_class = some ⟨oc60, od60, .func (PySem.W.fnOf "read_class" "read_class" (defArgs s_read_class) (defBody s_read_class) (defScope s_read_class) .none kV60 dc60 pm60 an60 cd60 ct60), sl60⟩)
    (c_read_class : PySem.W.codeIn K cd60 "read_class" = true)
    (k_read_class : PySem.W.keepIn K (.ref f_read_class) = true)
    (a_read_quoted : PySem.W.nsIn K mainGlobals "read_quoted" = some (some (.ref f_read_quoted)))
    (l_read_quoted : K.lookup f_read_quoted = some ⟨oc61, od61, .func (PySem.W.fnOf "read_quoted" "read_quoted" (defArgs s_read_quoted) (defBody s_read_quoted) (defScope s_read_quoted) .none kV61 dc61 pm61 an61 cd61 ct61), sl61⟩)
    (c_read_quoted : PySem.W.codeIn K cd61 "read_quoted" = true)
    (k_read_quoted : PySem.W.keepIn K (.ref f_read_quoted) = true)
    (a_read_digit : PySem.W.nsIn K mainGlobals "read_digit" = some (some (.ref f_read_digit)))
    (l_read_digit : K.lookup f_read_digit = some ⟨oc62, od62, .func (PySem.W.fnOf "read_digit" "read_digit" (defArgs s_read_digit) (defBody s_read_digit) (defScope s_read_digit) .none kV62 dc62 pm62 an62 cd62 ct62), sl62⟩)
    (c_read_digit : PySem.W.codeIn K cd62 "read_digit" = true)
    (k_read_digit : PySem.W.keepIn K (.ref f_read_digit) = true)
    (a_read_number : PySem.W.nsIn K mainGlobals "read_number" = some (some (.ref f_read_number)))
    (l_read_number : K.lookup f_read_number = some ⟨oc63, od63, .func (PySem.W.fnOf "read_number" "read_number" (defArgs s_read_number) (defBody s_read_number) (defScope s_read_number) .none kV63 dc63 pm63 an63 cd63 ct63), sl63⟩)
    (c_read_number : PySem.W.codeIn K cd63 "read_number" = true)
    (k_read_number : PySem.W.keepIn K (.ref f_read_number) = true)
    (a_answer_program : PySem.W.nsIn K mainGlobals "answer_program" = some (some (.ref f_answer_program)))
    (l_answer_program : K.lookup f_answer_program = some ⟨oc64, od64, .func (PySem.W.fnOf "answer_program" "answer_program" (defArgs s_answer_program) (defBody s_answer_program) (defScope s_answer_program) .none kV64 dc64 pm64 an64 cd64 ct64), sl64⟩)
    (c_answer_program : PySem.W.codeIn K cd64 "answer_program" = true)
    (k_answer_program : PySem.W.keepIn K (.ref f_answer_program) = true)
    (a_answer_record : PySem.W.nsIn K mainGlobals "answer_record" = some (some (.ref f_answer_record)))
    (l_answer_record : K.lookup f_answer_record = some ⟨oc65, od65, .func (PySem.W.fnOf "answer_record" "answer_record" (defArgs s_answer_record) (defBody s_answer_record) (defScope s_answer_record) .none kV65 dc65 pm65 an65 cd65 ct65), sl65⟩)
    (c_answer_record : PySem.W.codeIn K cd65 "answer_record" = true)
    (k_answer_record : PySem.W.keepIn K (.ref f_answer_record) = true)
    (a_answer_output : PySem.W.nsIn K mainGlobals "answer_output" = some (some (.ref f_answer_output)))
    (l_answer_output : K.lookup f_answer_output = some ⟨oc66, od66, .func (PySem.W.fnOf "answer_output" "answer_output" (defArgs s_answer_output) (defBody s_answer_output) (defScope s_answer_output) .none kV66 dc66 pm66 an66 cd66 ct66), sl66⟩)
    (c_answer_output : PySem.W.codeIn K cd66 "answer_output" = true)
    (k_answer_output : PySem.W.keepIn K (.ref f_answer_output) = true)
    (a_answer_fields : PySem.W.nsIn K mainGlobals "answer_fields" = some (some (.ref f_answer_fields)))
    (l_answer_fields : K.lookup f_answer_fields = some ⟨oc67, od67, .func (PySem.W.fnOf "answer_fields" "answer_fields" (defArgs s_answer_fields) (defBody s_answer_fields) (defScope s_answer_fields) .none kV67 dc67 pm67 an67 cd67 ct67), sl67⟩)
    (c_answer_fields : PySem.W.codeIn K cd67 "answer_fields" = true)
    (k_answer_fields : PySem.W.keepIn K (.ref f_answer_fields) = true)
    (a_answer_sources : PySem.W.nsIn K mainGlobals "answer_sources" = some (some (.ref f_answer_sources)))
    (l_answer_sources : K.lookup f_answer_sources = some ⟨oc68, od68, .func (PySem.W.fnOf "answer_sources" "answer_sources" (defArgs s_answer_sources) (defBody s_answer_sources) (defScope s_answer_sources) .none kV68 dc68 pm68 an68 cd68 ct68), sl68⟩)
    (c_answer_sources : PySem.W.codeIn K cd68 "answer_sources" = true)
    (k_answer_sources : PySem.W.keepIn K (.ref f_answer_sources) = true)
    (a_answer_piece : PySem.W.nsIn K mainGlobals "answer_piece" = some (some (.ref f_answer_piece)))
    (l_answer_piece : K.lookup f_answer_piece = some ⟨oc69, od69, .func (PySem.W.fnOf "answer_piece" "answer_piece" (defArgs s_answer_piece) (defBody s_answer_piece) (defScope s_answer_piece) .none kV69 dc69 pm69 an69 cd69 ct69), sl69⟩)
    (c_answer_piece : PySem.W.codeIn K cd69 "answer_piece" = true)
    (k_answer_piece : PySem.W.keepIn K (.ref f_answer_piece) = true)
    (a_answer_spread : PySem.W.nsIn K mainGlobals "answer_spread" = some (some (.ref f_answer_spread)))
    (l_answer_spread : K.lookup f_answer_spread = some ⟨oc70, od70, .func (PySem.W.fnOf "answer_spread" "answer_spread" (defArgs s_answer_spread) (defBody s_answer_spread) (defScope s_answer_spread) .none kV70 dc70 pm70 an70 cd70 ct70), sl70⟩)
    (c_answer_spread : PySem.W.codeIn K cd70 "answer_spread" = true)
    (k_answer_spread : PySem.W.keepIn K (.ref f_answer_spread) = true)
    (a_edited_record : PySem.W.nsIn K mainGlobals "edited_record" = some (some (.ref f_edited_record)))
    (l_edited_record : K.lookup f_edited_record = some ⟨oc71, od71, .func (PySem.W.fnOf "edited_record" "edited_record" (defArgs s_edited_record) (defBody s_edited_record) (defScope s_edited_record) .none kV71 dc71 pm71 an71 cd71 ct71), sl71⟩)
    (c_edited_record : PySem.W.codeIn K cd71 "edited_record" = true)
    (k_edited_record : PySem.W.keepIn K (.ref f_edited_record) = true)
    (a_change_record : PySem.W.nsIn K mainGlobals "change_record" = some (some (.ref f_change_record)))
    (l_change_record : K.lookup f_change_record = some ⟨oc72, od72, .func (PySem.W.fnOf "change_record" "change_record" (defArgs s_change_record) (defBody s_change_record) (defScope s_change_record) .none kV72 dc72 pm72 an72 cd72 ct72), sl72⟩)
    (c_change_record : PySem.W.codeIn K cd72 "change_record" = true)
    (k_change_record : PySem.W.keepIn K (.ref f_change_record) = true)
    (a_answer_could : PySem.W.nsIn K mainGlobals "answer_could" = some (some (.ref f_answer_could)))
    (l_answer_could : K.lookup f_answer_could = some ⟨oc73, od73, .func (PySem.W.fnOf "answer_could" "answer_could" (defArgs s_answer_could) (defBody s_answer_could) (defScope s_answer_could) .none kV73 dc73 pm73 an73 cd73 ct73), sl73⟩)
    (c_answer_could : PySem.W.codeIn K cd73 "answer_could" = true)
    (k_answer_could : PySem.W.keepIn K (.ref f_answer_could) = true)
    (a_answer_edit : PySem.W.nsIn K mainGlobals "answer_edit" = some (some (.ref f_answer_edit)))
    (l_answer_edit : K.lookup f_answer_edit = some ⟨oc74, od74, .func (PySem.W.fnOf "answer_edit" "answer_edit" (defArgs s_answer_edit) (defBody s_answer_edit) (defScope s_answer_edit) .none kV74 dc74 pm74 an74 cd74 ct74), sl74⟩)
    (c_answer_edit : PySem.W.codeIn K cd74 "answer_edit" = true)
    (k_answer_edit : PySem.W.keepIn K (.ref f_answer_edit) = true)
    (a_answer_whole : PySem.W.nsIn K mainGlobals "answer_whole" = some (some (.ref f_answer_whole)))
    (l_answer_whole : K.lookup f_answer_whole = some ⟨oc75, od75, .func (PySem.W.fnOf "answer_whole" "answer_whole" (defArgs s_answer_whole) (defBody s_answer_whole) (defScope s_answer_whole) .none kV75 dc75 pm75 an75 cd75 ct75), sl75⟩)
    (c_answer_whole : PySem.W.codeIn K cd75 "answer_whole" = true)
    (k_answer_whole : PySem.W.keepIn K (.ref f_answer_whole) = true)
    (a_answer_free : PySem.W.nsIn K mainGlobals "answer_free" = some (some (.ref f_answer_free)))
    (l_answer_free : K.lookup f_answer_free = some ⟨oc76, od76, .func (PySem.W.fnOf "answer_free" "answer_free" (defArgs s_answer_free) (defBody s_answer_free) (defScope s_answer_free) .none kV76 dc76 pm76 an76 cd76 ct76), sl76⟩)
    (c_answer_free : PySem.W.codeIn K cd76 "answer_free" = true)
    (k_answer_free : PySem.W.keepIn K (.ref f_answer_free) = true)
    (a_answer_undo : PySem.W.nsIn K mainGlobals "answer_undo" = some (some (.ref f_answer_undo)))
    (l_answer_undo : K.lookup f_answer_undo = some ⟨oc77, od77, .func (PySem.W.fnOf "answer_undo" "answer_undo" (defArgs s_answer_undo) (defBody s_answer_undo) (defScope s_answer_undo) .none kV77 dc77 pm77 an77 cd77 ct77), sl77⟩)
    (c_answer_undo : PySem.W.codeIn K cd77 "answer_undo" = true)
    (k_answer_undo : PySem.W.keepIn K (.ref f_answer_undo) = true)
    (a_answer_call : PySem.W.nsIn K mainGlobals "answer_call" = some (some (.ref f_answer_call)))
    (l_answer_call : K.lookup f_answer_call = some ⟨oc78, od78, .func (PySem.W.fnOf "answer_call" "answer_call" (defArgs s_answer_call) (defBody s_answer_call) (defScope s_answer_call) .none kV78 dc78 pm78 an78 cd78 ct78), sl78⟩)
    (c_answer_call : PySem.W.codeIn K cd78 "answer_call" = true)
    (k_answer_call : PySem.W.keepIn K (.ref f_answer_call) = true)
    (a_answers : PySem.W.nsIn K mainGlobals "answers" = some (some (.ref f_answers)))
    (l_answers : K.lookup f_answers = some ⟨oc79, od79, .func (PySem.W.fnOf "answers" "answers" (defArgs s_answers) (defBody s_answers) (defScope s_answers) .none kV79 dc79 pm79 an79 cd79 ct79), sl79⟩)
    (c_answers : PySem.W.codeIn K cd79 "answers" = true)
    (k_answers : PySem.W.keepIn K (.ref f_answers) = true)
    (a_SHAPES : PySem.W.nsIn K mainGlobals "SHAPES" = some (some (.ref g_SHAPES)))
    (mi_MOST_FIELDS : ∃ t, mg "MOST_FIELDS" = some (.int 4 t))
    (mi_LONGEST_FIELD : ∃ t, mg "LONGEST_FIELD" = some (.int 40 t))
    (mi_LOWEST_BYTE : ∃ t, mg "LOWEST_BYTE" = some (.int 32 t))
    (mi_HIGHEST_BYTE : ∃ t, mg "HIGHEST_BYTE" = some (.int 126 t))
    (mi_LONGEST_TEXT : ∃ t, mg "LONGEST_TEXT" = some (.int 240 t))
    (a_LETTERS_AND_DIGITS : PySem.W.nsIn K mainGlobals "LETTERS_AND_DIGITS" = some (some (.ref g_LETTERS_AND_DIGITS)))
    (a_CLASSES : PySem.W.nsIn K mainGlobals "CLASSES" = some (some (.ref g_CLASSES)))
    (mi_MOST_PIECES : ∃ t, mg "MOST_PIECES" = some (.int 6 t))
    (mi_LONGEST_CONSTANT : ∃ t, mg "LONGEST_CONSTANT" = some (.int 12 t))
    (mi_MISPLACED : ∃ t, mg "MISPLACED" = some (.int 1 t))
    (mi_CONSTANT_LENGTH : ∃ t, mg "CONSTANT_LENGTH" = some (.int 2 t))
    (mi_NUMBER : ∃ t, mg "NUMBER" = some (.int 3 t))
    (mi_TWO_EMPTY_CLASSES : ∃ t, mg "TWO_EMPTY_CLASSES" = some (.int 4 t))
    (mi_PIECE_TOO_MANY : ∃ t, mg "PIECE_TOO_MANY" = some (.int 5 t))
    (mi_LONGEST_PROGRAM : ∃ t, mg "LONGEST_PROGRAM" = some (.int 1000 t))
    (mi_MOST_PAST : ∃ t, mg "MOST_PAST" = some (.int 50 t))
    (a_ANSWERERS : PySem.W.nsIn K mainGlobals "ANSWERERS" = some (some (.ref g_ANSWERERS)))
    (B_shp : ∃ vs, WrT K g_SHAPES vs ∧ Paired (WrShape K) vs shapeTab)
    (B_lad : WrSpans K g_LETTERS_AND_DIGITS (spans .words))
    (B_cls : ∃ vs, WrT K g_CLASSES vs ∧ Paired (WrClass K) vs classTab)
    (W_ANSWERERS : WrD K g_ANSWERERS [((0 : Int), f_answer_program), ((1 : Int), f_answer_record), ((2 : Int), f_answer_output), ((3 : Int), f_answer_fields), ((4 : Int), f_answer_sources), ((5 : Int), f_answer_piece), ((6 : Int), f_answer_spread), ((7 : Int), f_answer_could), ((8 : Int), f_answer_edit), ((9 : Int), f_answer_whole), ((10 : Int), f_answer_free), ((11 : Int), f_answer_undo)])
    (xm_NoOutput_NoOutput : PySem.W.exmOne K (.ref c_NoOutput) (.ref c_NoOutput) = some true)
    (xm_NoOutput_NoSuchText : PySem.W.exmOne K (.ref c_NoOutput) (.ref c_NoSuchText) = some false)
    (xm_NoOutput_NoSuchPlace : PySem.W.exmOne K (.ref c_NoOutput) (.ref c_NoSuchPlace) = some false)
    (xm_NoOutput_NoPart : PySem.W.exmOne K (.ref c_NoOutput) (.ref c_NoPart) = some false)
    (xm_NoOutput_NotLedBack : PySem.W.exmOne K (.ref c_NoOutput) (.ref c_NotLedBack) = some false)
    (xm_NoSuchText_NoOutput : PySem.W.exmOne K (.ref c_NoSuchText) (.ref c_NoOutput) = some false)
    (xm_NoSuchText_NoSuchText : PySem.W.exmOne K (.ref c_NoSuchText) (.ref c_NoSuchText) = some true)
    (xm_NoSuchText_NoSuchPlace : PySem.W.exmOne K (.ref c_NoSuchText) (.ref c_NoSuchPlace) = some false)
    (xm_NoSuchText_NoPart : PySem.W.exmOne K (.ref c_NoSuchText) (.ref c_NoPart) = some false)
    (xm_NoSuchText_NotLedBack : PySem.W.exmOne K (.ref c_NoSuchText) (.ref c_NotLedBack) = some false)
    (xm_NoSuchPlace_NoOutput : PySem.W.exmOne K (.ref c_NoSuchPlace) (.ref c_NoOutput) = some false)
    (xm_NoSuchPlace_NoSuchText : PySem.W.exmOne K (.ref c_NoSuchPlace) (.ref c_NoSuchText) = some false)
    (xm_NoSuchPlace_NoSuchPlace : PySem.W.exmOne K (.ref c_NoSuchPlace) (.ref c_NoSuchPlace) = some true)
    (xm_NoSuchPlace_NoPart : PySem.W.exmOne K (.ref c_NoSuchPlace) (.ref c_NoPart) = some false)
    (xm_NoSuchPlace_NotLedBack : PySem.W.exmOne K (.ref c_NoSuchPlace) (.ref c_NotLedBack) = some false)
    (xm_NoPart_NoOutput : PySem.W.exmOne K (.ref c_NoPart) (.ref c_NoOutput) = some false)
    (xm_NoPart_NoSuchText : PySem.W.exmOne K (.ref c_NoPart) (.ref c_NoSuchText) = some false)
    (xm_NoPart_NoSuchPlace : PySem.W.exmOne K (.ref c_NoPart) (.ref c_NoSuchPlace) = some false)
    (xm_NoPart_NoPart : PySem.W.exmOne K (.ref c_NoPart) (.ref c_NoPart) = some true)
    (xm_NoPart_NotLedBack : PySem.W.exmOne K (.ref c_NoPart) (.ref c_NotLedBack) = some false)
    (xm_NotLedBack_NoOutput : PySem.W.exmOne K (.ref c_NotLedBack) (.ref c_NoOutput) = some false)
    (xm_NotLedBack_NoSuchText : PySem.W.exmOne K (.ref c_NotLedBack) (.ref c_NoSuchText) = some false)
    (xm_NotLedBack_NoSuchPlace : PySem.W.exmOne K (.ref c_NotLedBack) (.ref c_NoSuchPlace) = some false)
    (xm_NotLedBack_NoPart : PySem.W.exmOne K (.ref c_NotLedBack) (.ref c_NoPart) = some false)
    (xm_NotLedBack_NotLedBack : PySem.W.exmOne K (.ref c_NotLedBack) (.ref c_NotLedBack) = some true)
    (b_len : mg "len" = none)
    (b_ord : mg "ord" = none)
    (b_list : mg "list" = none)
    (b_range : mg "range" = none)
    (b_enumerate : mg "enumerate" = none)
    (b_all : mg "all" = none)
    (b_min : mg "min" = none) :
    ∃ fd : FuncData, (∀ (s : Shared) (us : List Value), us.length = (["calls"] : List Str).length → BindsTo s fd ⟨us, []⟩ ((["calls"] : List Str).zip us)) ∧ ∀ base : Heap, K.In base → base.Ns mainGlobals mg → FnOk P w K mg base CX0 14 fa fd ["calls"] (spA K) := by
  have e := hfa.symm.trans (PySem.W.mg_of X G a_answers)
  cases e
  let A : Ads := { c_Call := c_Call, c_Given := c_Given, c_NoOutput := c_NoOutput, c_Constant := c_Constant, c_Part := c_Part, c_NoSuchPlace := c_NoSuchPlace, c_NoSuchText := c_NoSuchText, c_NoPart := c_NoPart, c_NotLedBack := c_NotLedBack, c_Edit := c_Edit, c_Shown := c_Shown, c_FromStart := c_FromStart, c_FromEnd := c_FromEnd, c_Border := c_Border, c_Fault := c_Fault, c_Reader := c_Reader, c_Desk := c_Desk, g_SHAPES := g_SHAPES, g_LETTERS_AND_DIGITS := g_LETTERS_AND_DIGITS, g_CLASSES := g_CLASSES, g_ANSWERERS := g_ANSWERERS, f_answer_program := f_answer_program, f_answer_record := f_answer_record, f_answer_output := f_answer_output, f_answer_fields := f_answer_fields, f_answer_sources := f_answer_sources, f_answer_piece := f_answer_piece, f_answer_spread := f_answer_spread, f_answer_could := f_answer_could, f_answer_edit := f_answer_edit, f_answer_whole := f_answer_whole, f_answer_free := f_answer_free, f_answer_undo := f_answer_undo }
  have T : Fx K mg A := { cl_Call := cl_Call, n_Call_kind := n_Call_kind, n_Call_numbers := n_Call_numbers, n_Call_row := n_Call_row, cl_Given := cl_Given, n_Given_text := n_Given_text, n_Given_field := n_Given_field, n_Given_start := n_Given_start, cl_Constant := cl_Constant, n_Constant_text := n_Constant_text, cl_Part := cl_Part, n_Part_field := n_Part_field, n_Part_first := n_Part_first, n_Part_last := n_Part_last, n_Part_turn := n_Part_turn, cl_Edit := cl_Edit, n_Edit_start := n_Edit_start, n_Edit_end := n_Edit_end, n_Edit_text := n_Edit_text, cl_Shown := cl_Shown, n_Shown_program := n_Shown_program, n_Shown_record := n_Shown_record, n_Shown_givens := n_Shown_givens, n_Shown_output := n_Shown_output, cl_FromStart := cl_FromStart, n_FromStart_distance := n_FromStart_distance, cl_FromEnd := cl_FromEnd, n_FromEnd_distance := n_FromEnd_distance, cl_Border := cl_Border, n_Border_left := n_Border_left, n_Border_right := n_Border_right, n_Border_nth := n_Border_nth, n_Border_from_right := n_Border_from_right, cl_Reader := cl_Reader, n_Reader_text := n_Reader_text, n_Reader_place := n_Reader_place, cl_Desk := cl_Desk, n_Desk_program := n_Desk_program, n_Desk_record := n_Desk_record, n_Desk_past := n_Desk_past, m_SHAPES := PySem.W.mg_of X G a_SHAPES, m_MOST_FIELDS := mi_MOST_FIELDS, m_LONGEST_FIELD := mi_LONGEST_FIELD, m_LOWEST_BYTE := mi_LOWEST_BYTE, m_HIGHEST_BYTE := mi_HIGHEST_BYTE, m_LONGEST_TEXT := mi_LONGEST_TEXT, m_LETTERS_AND_DIGITS := PySem.W.mg_of X G a_LETTERS_AND_DIGITS, m_CLASSES := PySem.W.mg_of X G a_CLASSES, m_MOST_PIECES := mi_MOST_PIECES, m_LONGEST_CONSTANT := mi_LONGEST_CONSTANT, m_MISPLACED := mi_MISPLACED, m_CONSTANT_LENGTH := mi_CONSTANT_LENGTH, m_NUMBER := mi_NUMBER, m_TWO_EMPTY_CLASSES := mi_TWO_EMPTY_CLASSES, m_PIECE_TOO_MANY := mi_PIECE_TOO_MANY, m_LONGEST_PROGRAM := mi_LONGEST_PROGRAM, m_MOST_PAST := mi_MOST_PAST, m_ANSWERERS := PySem.W.mg_of X G a_ANSWERERS, e_NoOutput := PySem.W.mg_of X G a_NoOutput, ex_NoOutput := ⟨_, X_NoOutput⟩, nf_NoOutput_piece := n_NoOutput_piece, e_NoSuchPlace := PySem.W.mg_of X G a_NoSuchPlace, e_NoSuchText := PySem.W.mg_of X G a_NoSuchText, e_NoPart := PySem.W.mg_of X G a_NoPart, e_NotLedBack := PySem.W.mg_of X G a_NotLedBack, e_Fault := PySem.W.mg_of X G a_Fault, ex_Fault := ⟨_, X_Fault⟩, nf_Fault_kind := n_Fault_kind, nf_Fault_place := n_Fault_place, xm_NoOutput_NoOutput := xm_NoOutput_NoOutput, xm_NoOutput_NoSuchText := xm_NoOutput_NoSuchText, xm_NoOutput_NoSuchPlace := xm_NoOutput_NoSuchPlace, xm_NoOutput_NoPart := xm_NoOutput_NoPart, xm_NoOutput_NotLedBack := xm_NoOutput_NotLedBack, xm_NoSuchText_NoOutput := xm_NoSuchText_NoOutput, xm_NoSuchText_NoSuchText := xm_NoSuchText_NoSuchText, xm_NoSuchText_NoSuchPlace := xm_NoSuchText_NoSuchPlace, xm_NoSuchText_NoPart := xm_NoSuchText_NoPart, xm_NoSuchText_NotLedBack := xm_NoSuchText_NotLedBack, xm_NoSuchPlace_NoOutput := xm_NoSuchPlace_NoOutput, xm_NoSuchPlace_NoSuchText := xm_NoSuchPlace_NoSuchText, xm_NoSuchPlace_NoSuchPlace := xm_NoSuchPlace_NoSuchPlace, xm_NoSuchPlace_NoPart := xm_NoSuchPlace_NoPart, xm_NoSuchPlace_NotLedBack := xm_NoSuchPlace_NotLedBack, xm_NoPart_NoOutput := xm_NoPart_NoOutput, xm_NoPart_NoSuchText := xm_NoPart_NoSuchText, xm_NoPart_NoSuchPlace := xm_NoPart_NoSuchPlace, xm_NoPart_NoPart := xm_NoPart_NoPart, xm_NoPart_NotLedBack := xm_NoPart_NotLedBack, xm_NotLedBack_NoOutput := xm_NotLedBack_NoOutput, xm_NotLedBack_NoSuchText := xm_NotLedBack_NoSuchText, xm_NotLedBack_NoSuchPlace := xm_NotLedBack_NoSuchPlace, xm_NotLedBack_NoPart := xm_NotLedBack_NoPart, xm_NotLedBack_NotLedBack := xm_NotLedBack_NotLedBack, b_len := b_len, b_ord := b_ord, b_list := b_list, b_range := b_range, b_enumerate := b_enumerate, b_all := b_all, b_min := b_min }
  have B : Tabs K A := ⟨B_shp, B_lad, B_cls⟩
  have F_answers := fun_mk (st := s_answers) l_answers c_answers k_answers
  refine ⟨PySem.W.fnOf "answers" "answers" (defArgs s_answers) (defBody s_answers) (defScope s_answers) .none kV79 dc79 pm79 an79 cd79 ct79, fun s us hu => match us, hu with | [_], _ => .of_eq rfl, fun base _ _ => ?_⟩
  have F_Call_init := fun_mk (st := s_Call_init) l_Call_init c_Call_init k_Call_init
  have b_Call_init := F_Call_init.binds (ps := ["self", "kind", "numbers", "row"]) fun _ _ _ _ _ _ us hl => match us, hl with | [_, _, _, _], _ => rfl
  have D_new_Call : MakeOk P w K mg base 1 A.c_Call "Call" 3 fo_Call := ⟨_, _, _, ok_Call_init F_Call_init T, PySem.W.mg_of X G a_Call, mk_Call, b_Call_init⟩
  have F_Given_init := fun_mk (st := s_Given_init) l_Given_init c_Given_init k_Given_init
  have b_Given_init := F_Given_init.binds (ps := ["self", "text", "field", "start"]) fun _ _ _ _ _ _ us hl => match us, hl with | [_, _, _, _], _ => rfl
  have D_new_Given : MakeOk P w K mg base 1 A.c_Given "Given" 3 fo_Given := ⟨_, _, _, ok_Given_init F_Given_init T, PySem.W.mg_of X G a_Given, mk_Given, b_Given_init⟩
  have F_NoOutput_init := fun_mk (st := s_NoOutput_init) l_NoOutput_init c_NoOutput_init k_NoOutput_init
  have D_err_NoOutput : ErrOk P w K mg A.c_NoOutput "NoOutput" 1 PySem.OeX.fo_NoOutput := ⟨_, X_NoOutput, PySem.W.mg_of X G a_NoOutput, fun r ln XK hl hd hq => PySem.OeX.mk_NoOutput X_NoOutput F_NoOutput_init n_NoOutput_piece r ln XK hl hd hq⟩
  have F_Constant_init := fun_mk (st := s_Constant_init) l_Constant_init c_Constant_init k_Constant_init
  have b_Constant_init := F_Constant_init.binds (ps := ["self", "text"]) fun _ _ _ _ _ _ us hl => match us, hl with | [_, _], _ => rfl
  have D_new_Constant : MakeOk P w K mg base 1 A.c_Constant "Constant" 1 fo_Constant := ⟨_, _, _, ok_Constant_init F_Constant_init T, PySem.W.mg_of X G a_Constant, mk_Constant, b_Constant_init⟩
  have F_Part_init := fun_mk (st := s_Part_init) l_Part_init c_Part_init k_Part_init
  have b_Part_init := F_Part_init.binds (ps := ["self", "field", "first", "last", "turn"]) fun _ _ _ _ _ _ us hl => match us, hl with | [_, _, _, _, _], _ => rfl
  have D_new_Part : MakeOk P w K mg base 1 A.c_Part "Part" 4 fo_Part := ⟨_, _, _, ok_Part_init F_Part_init T, PySem.W.mg_of X G a_Part, mk_Part, b_Part_init⟩
  have D_err_NoSuchPlace : PErr K mg A.c_NoSuchPlace "NoSuchPlace" := pe_NoSuchPlace
  have D_err_NoSuchText : PErr K mg A.c_NoSuchText "NoSuchText" := pe_NoSuchText
  have D_err_NoPart : PErr K mg A.c_NoPart "NoPart" := pe_NoPart
  have D_err_NotLedBack : PErr K mg A.c_NotLedBack "NotLedBack" := pe_NotLedBack
  have F_Edit_init := fun_mk (st := s_Edit_init) l_Edit_init c_Edit_init k_Edit_init
  have b_Edit_init := F_Edit_init.binds (ps := ["self", "start", "end", "text"]) fun _ _ _ _ _ _ us hl => match us, hl with | [_, _, _, _], _ => rfl
  have D_new_Edit : MakeOk P w K mg base 1 A.c_Edit "Edit" 3 fo_Edit := ⟨_, _, _, ok_Edit_init F_Edit_init T, PySem.W.mg_of X G a_Edit, mk_Edit, b_Edit_init⟩
  have F_FromStart_init := fun_mk (st := s_FromStart_init) l_FromStart_init c_FromStart_init k_FromStart_init
  have b_FromStart_init := F_FromStart_init.binds (ps := ["self", "distance"]) fun _ _ _ _ _ _ us hl => match us, hl with | [_, _], _ => rfl
  have D_new_FromStart : MakeOk P w K mg base 1 A.c_FromStart "FromStart" 1 fo_FromStart := ⟨_, _, _, ok_FromStart_init F_FromStart_init T, PySem.W.mg_of X G a_FromStart, mk_FromStart, b_FromStart_init⟩
  have F_FromEnd_init := fun_mk (st := s_FromEnd_init) l_FromEnd_init c_FromEnd_init k_FromEnd_init
  have b_FromEnd_init := F_FromEnd_init.binds (ps := ["self", "distance"]) fun _ _ _ _ _ _ us hl => match us, hl with | [_, _], _ => rfl
  have D_new_FromEnd : MakeOk P w K mg base 1 A.c_FromEnd "FromEnd" 1 fo_FromEnd := ⟨_, _, _, ok_FromEnd_init F_FromEnd_init T, PySem.W.mg_of X G a_FromEnd, mk_FromEnd, b_FromEnd_init⟩
  have F_Border_init := fun_mk (st := s_Border_init) l_Border_init c_Border_init k_Border_init
  have b_Border_init := F_Border_init.binds (ps := ["self", "left", "right", "nth", "from_right"]) fun _ _ _ _ _ _ us hl => match us, hl with | [_, _, _, _, _], _ => rfl
  have D_new_Border : MakeOk P w K mg base 1 A.c_Border "Border" 4 fo_Border := ⟨_, _, _, ok_Border_init F_Border_init T, PySem.W.mg_of X G a_Border, mk_Border, b_Border_init⟩
  have F_Fault_init := fun_mk (st := s_Fault_init) l_Fault_init c_Fault_init k_Fault_init
  have D_err_Fault : ErrOk P w K mg A.c_Fault "Fault" 2 PySem.OeX.fo_Fault := ⟨_, X_Fault, PySem.W.mg_of X G a_Fault, fun r ln XK hl hd hq => PySem.OeX.mk_Fault X_Fault F_Fault_init n_Fault_kind n_Fault_place r ln XK hl hd hq⟩
  have F_Reader_init := fun_mk (st := s_Reader_init) l_Reader_init c_Reader_init k_Reader_init
  have b_Reader_init := F_Reader_init.binds (ps := ["self", "text"]) fun _ _ _ _ _ _ us hl => match us, hl with | [_, _], _ => rfl
  have D_new_Reader : MakeOk P w K mg base 1 A.c_Reader "Reader" 1 fo_Reader := ⟨_, _, _, ok_Reader_init F_Reader_init T, PySem.W.mg_of X G a_Reader, mk_Reader, b_Reader_init⟩
  have F_Reader_stands_within := fun_mk (st := s_Reader_stands_within) l_Reader_stands_within c_Reader_stands_within k_Reader_stands_within
  have b_Reader_stands_within := F_Reader_stands_within.binds (ps := ["self", "low", "high"]) fun _ _ _ _ _ _ us hl => match us, hl with | [_, _, _], _ => rfl
  have D_Reader_stands_within : MethOk P w K mg base CX0 1 A.c_Reader "stands_within" ["self", "low", "high"] (sp_Reader_stands_within K A) := ⟨_, _, ok_Reader_stands_within F_Reader_stands_within T  (fun vs H Q E h => pure_Reader_stands_within T  vs H Q E h), cl_Reader, me_Reader_stands_within, b_Reader_stands_within⟩
  have F_Reader_stands := fun_mk (st := s_Reader_stands) l_Reader_stands c_Reader_stands k_Reader_stands
  have b_Reader_stands := F_Reader_stands.binds (ps := ["self", "sign"]) fun _ _ _ _ _ _ us hl => match us, hl with | [_, _], _ => rfl
  have D_Reader_stands : MethOk P w K mg base CX0 2 A.c_Reader "stands" ["self", "sign"] (sp_Reader_stands K A) := ⟨_, _, ok_Reader_stands F_Reader_stands T D_Reader_stands_within (fun vs H Q E h => pure_Reader_stands T  vs H Q E h), cl_Reader, me_Reader_stands, b_Reader_stands⟩
  have F_Reader_skip := fun_mk (st := s_Reader_skip) l_Reader_skip c_Reader_skip k_Reader_skip
  have b_Reader_skip := F_Reader_skip.binds (ps := ["self", "sign"]) fun _ _ _ _ _ _ us hl => match us, hl with | [_, _], _ => rfl
  have D_Reader_skip : MethOk P w K mg base CX0 3 A.c_Reader "skip" ["self", "sign"] (sp_Reader_skip K A) := ⟨_, _, ok_Reader_skip F_Reader_skip T D_Reader_stands (fun vs H Q E h => pure_Reader_skip T  vs H Q E h), cl_Reader, me_Reader_skip, b_Reader_skip⟩
  have F_Reader_take := fun_mk (st := s_Reader_take) l_Reader_take c_Reader_take k_Reader_take
  have b_Reader_take := F_Reader_take.binds (ps := ["self", "low", "high"]) fun _ _ _ _ _ _ us hl => match us, hl with | [_, _, _], _ => rfl
  have D_Reader_take : MethOk P w K mg base (L2.CX P w) 2 A.c_Reader "take" ["self", "low", "high"] (sp_Reader_take K A) := ⟨_, _, ok_Reader_take F_Reader_take T D_Reader_stands_within D_err_Fault (fun vs H Q E h => pure_Reader_take T  vs H Q E h), cl_Reader, me_Reader_take, b_Reader_take⟩
  have F_Reader_need := fun_mk (st := s_Reader_need) l_Reader_need c_Reader_need k_Reader_need
  have b_Reader_need := F_Reader_need.binds (ps := ["self", "sign"]) fun _ _ _ _ _ _ us hl => match us, hl with | [_, _], _ => rfl
  have D_Reader_need : MethOk P w K mg base (L2.CX P w) 3 A.c_Reader "need" ["self", "sign"] (sp_Reader_need K A) := ⟨_, _, ok_Reader_need F_Reader_need T D_Reader_take (fun vs H Q E h => pure_Reader_need T  vs H Q E h), cl_Reader, me_Reader_need, b_Reader_need⟩
  have F_read_constant := fun_mk (st := s_read_constant) l_read_constant c_read_constant k_read_constant
  have b_read_constant := F_read_constant.binds (ps := ["reader"]) fun _ _ _ _ _ _ us hl => match us, hl with | [_], _ => rfl
  have D_read_constant : DefOk P w K mg base (L2.CX P w) 4 "read_constant" ["reader"] (sp_read_constant K A) := ⟨_, _, ok_read_constant F_read_constant T D_Reader_need D_Reader_take D_Reader_skip D_err_Fault D_new_Constant (fun vs H Q E h => pure_read_constant T  vs H Q E h), PySem.W.mg_of X G a_read_constant, k_read_constant, b_read_constant⟩
  have F_read_digit := fun_mk (st := s_read_digit) l_read_digit c_read_digit k_read_digit
  have b_read_digit := F_read_digit.binds (ps := ["reader"]) fun _ _ _ _ _ _ us hl => match us, hl with | [_], _ => rfl
  have D_read_digit : DefOk P w K mg base (L2.CX P w) 3 "read_digit" ["reader"] (sp_read_digit K A) := ⟨_, _, ok_read_digit F_read_digit T D_Reader_take (fun vs H Q E h => pure_read_digit T  vs H Q E h), PySem.W.mg_of X G a_read_digit, k_read_digit, b_read_digit⟩
  have F_read_number := fun_mk (st := s_read_number) l_read_number c_read_number k_read_number
  have b_read_number := F_read_number.binds (ps := ["reader", "low", "high"]) fun _ _ _ _ _ _ us hl => match us, hl with | [_, _, _], _ => rfl
  have D_read_number : DefOk P w K mg base (L2.CX P w) 4 "read_number" ["reader", "low", "high"] (sp_read_number K A) := ⟨_, _, ok_read_number F_read_number T D_read_digit D_Reader_stands_within D_err_Fault (fun vs H Q E h => pure_read_number T  vs H Q E h), PySem.W.mg_of X G a_read_number, k_read_number, b_read_number⟩
  have F_in_spans := fun_mk (st := s_in_spans) l_in_spans c_in_spans k_in_spans
  have b_in_spans := F_in_spans.binds (ps := ["byte", "spans"]) fun _ _ _ _ _ _ us hl => match us, hl with | [_, _], _ => rfl
  have D_in_spans : DefOk P w K mg base CX0 1 "in_spans" ["byte", "spans"] (sp_in_spans K A) := ⟨_, _, ok_in_spans F_in_spans T  (fun vs H Q E h => pure_in_spans T  vs H Q E h), PySem.W.mg_of X G a_in_spans, k_in_spans, b_in_spans⟩
  have F_is_letter_or_digit := fun_mk (st := s_is_letter_or_digit) l_is_letter_or_digit c_is_letter_or_digit k_is_letter_or_digit
  have b_is_letter_or_digit := F_is_letter_or_digit.binds (ps := ["byte"]) fun _ _ _ _ _ _ us hl => match us, hl with | [_], _ => rfl
  have D_is_letter_or_digit : DefOk P w K mg base CX0 2 "is_letter_or_digit" ["byte"] (sp_is_letter_or_digit K A) := ⟨_, _, ok_is_letter_or_digit F_is_letter_or_digit T D_in_spans (fun vs H Q E h => pure_is_letter_or_digit T B vs H Q E h), PySem.W.mg_of X G a_is_letter_or_digit, k_is_letter_or_digit, b_is_letter_or_digit⟩
  have F_read_quoted := fun_mk (st := s_read_quoted) l_read_quoted c_read_quoted k_read_quoted
  have b_read_quoted := F_read_quoted.binds (ps := ["reader"]) fun _ _ _ _ _ _ us hl => match us, hl with | [_], _ => rfl
  have D_read_quoted : DefOk P w K mg base (L2.CX P w) 3 "read_quoted" ["reader"] (sp_read_quoted K A) := ⟨_, _, ok_read_quoted F_read_quoted T D_Reader_take D_is_letter_or_digit D_err_Fault (fun vs H Q E h => pure_read_quoted T  vs H Q E h), PySem.W.mg_of X G a_read_quoted, k_read_quoted, b_read_quoted⟩
  have F_read_class := fun_mk (st := s_read_class) l_read_class c_read_class k_read_class
  have b_read_class := F_read_class.binds (ps := ["reader"]) fun _ _ _ _ _ _ us hl => match us, hl with | [_], _ => rfl
  have D_read_class : DefOk P w K mg base (L2.CX P w) 4 "read_class" ["reader"] (sp_read_class K A) := ⟨_, _, ok_read_class F_read_class T D_Reader_skip D_read_quoted D_err_Fault (fun vs H Q E h => pure_read_class T B vs H Q E h), PySem.W.mg_of X G a_read_class, k_read_class, b_read_class⟩
  have F_read_border := fun_mk (st := s_read_border) l_read_border c_read_border k_read_border
  have b_read_border := F_read_border.binds (ps := ["reader"]) fun _ _ _ _ _ _ us hl => match us, hl with | [_], _ => rfl
  have D_read_border : DefOk P w K mg base (L2.CX P w) 5 "read_border" ["reader"] (sp_read_border K A) := ⟨_, _, ok_read_border F_read_border T D_read_class D_Reader_need D_err_Fault D_Reader_skip D_read_number D_new_Border (fun vs H Q E h => pure_read_border T  vs H Q E h), PySem.W.mg_of X G a_read_border, k_read_border, b_read_border⟩
  have F_read_position := fun_mk (st := s_read_position) l_read_position c_read_position k_read_position
  have b_read_position := F_read_position.binds (ps := ["reader"]) fun _ _ _ _ _ _ us hl => match us, hl with | [_], _ => rfl
  have D_read_position : DefOk P w K mg base (L2.CX P w) 6 "read_position" ["reader"] (sp_read_position K A) := ⟨_, _, ok_read_position F_read_position T D_Reader_skip D_read_number D_new_FromStart D_new_FromEnd D_read_border (fun vs H Q E h => pure_read_position T  vs H Q E h), PySem.W.mg_of X G a_read_position, k_read_position, b_read_position⟩
  have F_read_turn := fun_mk (st := s_read_turn) l_read_turn c_read_turn k_read_turn
  have b_read_turn := F_read_turn.binds (ps := ["reader"]) fun _ _ _ _ _ _ us hl => match us, hl with | [_], _ => rfl
  have D_read_turn : DefOk P w K mg base CX0 4 "read_turn" ["reader"] (sp_read_turn K A) := ⟨_, _, ok_read_turn F_read_turn T D_Reader_skip (fun vs H Q E h => pure_read_turn T  vs H Q E h), PySem.W.mg_of X G a_read_turn, k_read_turn, b_read_turn⟩
  have F_read_part := fun_mk (st := s_read_part) l_read_part c_read_part k_read_part
  have b_read_part := F_read_part.binds (ps := ["reader"]) fun _ _ _ _ _ _ us hl => match us, hl with | [_], _ => rfl
  have D_read_part : DefOk P w K mg base (L2.CX P w) 7 "read_part" ["reader"] (sp_read_part K A) := ⟨_, _, ok_read_part F_read_part T D_Reader_take D_Reader_need D_read_position D_read_turn D_new_Part (fun vs H Q E h => pure_read_part T  vs H Q E h), PySem.W.mg_of X G a_read_part, k_read_part, b_read_part⟩
  have F_read_piece := fun_mk (st := s_read_piece) l_read_piece c_read_piece k_read_piece
  have b_read_piece := F_read_piece.binds (ps := ["reader"]) fun _ _ _ _ _ _ us hl => match us, hl with | [_], _ => rfl
  have D_read_piece : DefOk P w K mg base (L2.CX P w) 8 "read_piece" ["reader"] (sp_read_piece K A) := ⟨_, _, ok_read_piece F_read_piece T D_Reader_stands D_read_constant D_read_part (fun vs H Q E h => pure_read_piece T  vs H Q E h), PySem.W.mg_of X G a_read_piece, k_read_piece, b_read_piece⟩
  have F_Reader_need_end := fun_mk (st := s_Reader_need_end) l_Reader_need_end c_Reader_need_end k_Reader_need_end
  have b_Reader_need_end := F_Reader_need_end.binds (ps := ["self"]) fun _ _ _ _ _ _ us hl => match us, hl with | [_], _ => rfl
  have D_Reader_need_end : MethOk P w K mg base (L2.CX P w) 2 A.c_Reader "need_end" ["self"] (sp_Reader_need_end K A) := ⟨_, _, ok_Reader_need_end F_Reader_need_end T D_err_Fault (fun vs H Q E h => pure_Reader_need_end T  vs H Q E h), cl_Reader, me_Reader_need_end, b_Reader_need_end⟩
  have F_read_program := fun_mk (st := s_read_program) l_read_program c_read_program k_read_program
  have b_read_program := F_read_program.binds (ps := ["text"]) fun _ _ _ _ _ _ us hl => match us, hl with | [_], _ => rfl
  have D_read_program : DefOk P w K mg base (L2.CX P w) 9 "read_program" ["text"] (sp_read_program K A) := ⟨_, _, ok_read_program F_read_program T D_new_Reader D_Reader_skip D_read_piece D_err_Fault D_Reader_need_end (fun vs H Q E h => pure_read_program T  vs H Q E h), PySem.W.mg_of X G a_read_program, k_read_program, b_read_program⟩
  have F_stands_behind := fun_mk (st := s_stands_behind) l_stands_behind c_stands_behind k_stands_behind
  have b_stands_behind := F_stands_behind.binds (ps := ["text", "place", "spans"]) fun _ _ _ _ _ _ us hl => match us, hl with | [_, _, _], _ => rfl
  have D_stands_behind : DefOk P w K mg base CX0 2 "stands_behind" ["text", "place", "spans"] (sp_stands_behind K A) := ⟨_, _, ok_stands_behind F_stands_behind T D_in_spans (fun vs H Q E h => pure_stands_behind T  vs H Q E h), PySem.W.mg_of X G a_stands_behind, k_stands_behind, b_stands_behind⟩
  have F_begins := fun_mk (st := s_begins) l_begins c_begins k_begins
  have b_begins := F_begins.binds (ps := ["text", "place", "spans"]) fun _ _ _ _ _ _ us hl => match us, hl with | [_, _, _], _ => rfl
  have D_begins : DefOk P w K mg base CX0 3 "begins" ["text", "place", "spans"] (sp_begins K A) := ⟨_, _, ok_begins F_begins T D_stands_behind (fun vs H Q E h => pure_begins T  vs H Q E h), PySem.W.mg_of X G a_begins, k_begins, b_begins⟩
  have F_ends := fun_mk (st := s_ends) l_ends c_ends k_ends
  have b_ends := F_ends.binds (ps := ["text", "place", "spans"]) fun _ _ _ _ _ _ us hl => match us, hl with | [_, _, _], _ => rfl
  have D_ends : DefOk P w K mg base CX0 3 "ends" ["text", "place", "spans"] (sp_ends K A) := ⟨_, _, ok_ends F_ends T D_stands_behind (fun vs H Q E h => pure_ends T  vs H Q E h), PySem.W.mg_of X G a_ends, k_ends, b_ends⟩
  have F_borders := fun_mk (st := s_borders) l_borders c_borders k_borders
  have b_borders := F_borders.binds (ps := ["text", "left", "right"]) fun _ _ _ _ _ _ us hl => match us, hl with | [_, _, _], _ => rfl
  have D_borders : DefOk P w K mg base CX0 4 "borders" ["text", "left", "right"] (sp_borders K A) := ⟨_, _, ok_borders F_borders T D_ends D_begins (fun vs H Q E h => pure_borders T  vs H Q E h), PySem.W.mg_of X G a_borders, k_borders, b_borders⟩
  have F_FromStart_place_in := fun_mk (st := s_FromStart_place_in) l_FromStart_place_in c_FromStart_place_in k_FromStart_place_in
  have b_FromStart_place_in := F_FromStart_place_in.binds (ps := ["self", "text"]) fun _ _ _ _ _ _ us hl => match us, hl with | [_, _], _ => rfl
  have D_FromStart_place_in : MethOk P w K mg base CX0 1 A.c_FromStart "place_in" ["self", "text"] (sp_FromStart_place_in K A) := ⟨_, _, ok_FromStart_place_in F_FromStart_place_in T  (fun vs H Q E h => pure_FromStart_place_in T  vs H Q E h), cl_FromStart, me_FromStart_place_in, b_FromStart_place_in⟩
  have F_FromEnd_place_in := fun_mk (st := s_FromEnd_place_in) l_FromEnd_place_in c_FromEnd_place_in k_FromEnd_place_in
  have b_FromEnd_place_in := F_FromEnd_place_in.binds (ps := ["self", "text"]) fun _ _ _ _ _ _ us hl => match us, hl with | [_, _], _ => rfl
  have D_FromEnd_place_in : MethOk P w K mg base CX0 1 A.c_FromEnd "place_in" ["self", "text"] (sp_FromEnd_place_in K A) := ⟨_, _, ok_FromEnd_place_in F_FromEnd_place_in T  (fun vs H Q E h => pure_FromEnd_place_in T  vs H Q E h), cl_FromEnd, me_FromEnd_place_in, b_FromEnd_place_in⟩
  have F_Border_place_in := fun_mk (st := s_Border_place_in) l_Border_place_in c_Border_place_in k_Border_place_in
  have b_Border_place_in := F_Border_place_in.binds (ps := ["self", "text"]) fun _ _ _ _ _ _ us hl => match us, hl with | [_, _], _ => rfl
  have D_Border_place_in : MethOk P w K mg base CX0 5 A.c_Border "place_in" ["self", "text"] (sp_Border_place_in K A) := ⟨_, _, ok_Border_place_in F_Border_place_in T D_borders (fun vs H Q E h => pure_Border_place_in T  vs H Q E h), cl_Border, me_Border_place_in, b_Border_place_in⟩
  have F_capital := fun_mk (st := s_capital) l_capital c_capital k_capital
  have b_capital := F_capital.binds (ps := ["byte"]) fun _ _ _ _ _ _ us hl => match us, hl with | [_], _ => rfl
  have D_capital : DefOk P w K mg base CX0 1 "capital" ["byte"] (sp_capital K A) := ⟨_, _, ok_capital F_capital T  (fun vs H Q E h => pure_capital T  vs H Q E h), PySem.W.mg_of X G a_capital, k_capital, b_capital⟩
  have F_small := fun_mk (st := s_small) l_small c_small k_small
  have b_small := F_small.binds (ps := ["byte"]) fun _ _ _ _ _ _ us hl => match us, hl with | [_], _ => rfl
  have D_small : DefOk P w K mg base CX0 1 "small" ["byte"] (sp_small K A) := ⟨_, _, ok_small F_small T  (fun vs H Q E h => pure_small T  vs H Q E h), PySem.W.mg_of X G a_small, k_small, b_small⟩
  have F_turned := fun_mk (st := s_turned) l_turned c_turned k_turned
  have b_turned := F_turned.binds (ps := ["text", "turn"]) fun _ _ _ _ _ _ us hl => match us, hl with | [_, _], _ => rfl
  have D_turned : DefOk P w K mg base CX0 2 "turned" ["text", "turn"] (sp_turned K A) := ⟨_, _, ok_turned F_turned T D_capital D_small (fun vs H Q E h => pure_turned T  vs H Q E h), PySem.W.mg_of X G a_turned, k_turned, b_turned⟩
  have F_Given_source := fun_mk (st := s_Given_source) l_Given_source c_Given_source k_Given_source
  have b_Given_source := F_Given_source.binds (ps := ["self", "k"]) fun _ _ _ _ _ _ us hl => match us, hl with | [_, _], _ => rfl
  have D_Given_source : MethOk P w K mg base CX0 1 A.c_Given "source" ["self", "k"] (sp_Given_source K A) := ⟨_, _, ok_Given_source F_Given_source T  (fun vs H Q E h => pure_Given_source T  vs H Q E h), cl_Given, me_Given_source, b_Given_source⟩
  have F_Constant_given_on := fun_mk (st := s_Constant_given_on) l_Constant_given_on c_Constant_given_on k_Constant_given_on
  have b_Constant_given_on := F_Constant_given_on.binds (ps := ["self", "record"]) fun _ _ _ _ _ _ us hl => match us, hl with | [_, _], _ => rfl
  have D_Constant_given_on : MethOk P w K mg base CX0 3 A.c_Constant "given_on" ["self", "record"] (sp_Constant_given_on K A) := ⟨_, _, ok_Constant_given_on F_Constant_given_on T D_new_Given (fun vs H Q E h => pure_Constant_given_on T  vs H Q E h), cl_Constant, me_Constant_given_on, b_Constant_given_on⟩
  have D_dyn_Pos_place_in : ∀ C sp, tb_Pos K A C sp → MethOk P w K mg base CX0 5 C "place_in" ["self", "text"] sp := by
    rintro C sp (⟨rfl, rfl⟩ | ⟨rfl, rfl⟩ | ⟨rfl, rfl⟩)
    · exact D_FromStart_place_in.mono (by decide)
    · exact D_FromEnd_place_in.mono (by decide)
    · exact D_Border_place_in.mono (by decide)
  have F_Part_given_on := fun_mk (st := s_Part_given_on) l_Part_given_on c_Part_given_on k_Part_given_on
  have b_Part_given_on := F_Part_given_on.binds (ps := ["self", "record"]) fun _ _ _ _ _ _ us hl => match us, hl with | [_, _], _ => rfl
  have D_Part_given_on : MethOk P w K mg base CX0 6 A.c_Part "given_on" ["self", "record"] (sp_Part_given_on K A) := ⟨_, _, ok_Part_given_on F_Part_given_on T D_dyn_Pos_place_in D_turned D_new_Given (fun vs H Q E h => pure_Part_given_on T  vs H Q E h), cl_Part, me_Part_given_on, b_Part_given_on⟩
  have D_dyn_Piece_given_on : ∀ C sp, tb_Piece K A C sp → MethOk P w K mg base CX0 6 C "given_on" ["self", "record"] sp := by
    rintro C sp (⟨rfl, rfl⟩ | ⟨rfl, rfl⟩)
    · exact D_Constant_given_on.mono (by decide)
    · exact D_Part_given_on.mono (by decide)
  have F_all_given := fun_mk (st := s_all_given) l_all_given c_all_given k_all_given
  have b_all_given := F_all_given.binds (ps := ["program", "record"]) fun _ _ _ _ _ _ us hl => match us, hl with | [_, _], _ => rfl
  have D_all_given : DefOk P w K mg base (L2.CX P w) 7 "all_given" ["program", "record"] (sp_all_given K A) := ⟨_, _, ok_all_given F_all_given T D_dyn_Piece_given_on D_err_NoOutput (fun vs H Q E h => pure_all_given T  vs H Q E h), PySem.W.mg_of X G a_all_given, k_all_given, b_all_given⟩
  have F_joined := fun_mk (st := s_joined) l_joined c_joined k_joined
  have b_joined := F_joined.binds (ps := ["givens"]) fun _ _ _ _ _ _ us hl => match us, hl with | [_], _ => rfl
  have D_joined : DefOk P w K mg base CX0 1 "joined" ["givens"] (sp_joined K A) := ⟨_, _, ok_joined F_joined T  (fun vs H Q E h => pure_joined T  vs H Q E h), PySem.W.mg_of X G a_joined, k_joined, b_joined⟩
  have F_is_plain := fun_mk (st := s_is_plain) l_is_plain c_is_plain k_is_plain
  have b_is_plain := F_is_plain.binds (ps := ["text", "longest"]) fun _ _ _ _ _ _ us hl => match us, hl with | [_, _], _ => rfl
  have D_is_plain : DefOk P w K mg base CX0 1 "is_plain" ["text", "longest"] (sp_is_plain K A) := ⟨_, _, ok_is_plain F_is_plain T  (fun vs H Q E h => pure_is_plain T  vs H Q E h), PySem.W.mg_of X G a_is_plain, k_is_plain, b_is_plain⟩
  have F_is_field := fun_mk (st := s_is_field) l_is_field c_is_field k_is_field
  have b_is_field := F_is_field.binds (ps := ["text"]) fun _ _ _ _ _ _ us hl => match us, hl with | [_], _ => rfl
  have D_is_field : DefOk P w K mg base CX0 2 "is_field" ["text"] (sp_is_field K A) := ⟨_, _, ok_is_field F_is_field T D_is_plain (fun vs H Q E h => pure_is_field T  vs H Q E h), PySem.W.mg_of X G a_is_field, k_is_field, b_is_field⟩
  have F_is_record := fun_mk (st := s_is_record) l_is_record c_is_record k_is_record
  have b_is_record := F_is_record.binds (ps := ["texts"]) fun _ _ _ _ _ _ us hl => match us, hl with | [_], _ => rfl
  have D_is_record : DefOk P w K mg base CX0 3 "is_record" ["texts"] (sp_is_record K A) := ⟨_, _, ok_is_record F_is_record T D_is_field (fun vs H Q E h => pure_is_record T  vs H Q E h), PySem.W.mg_of X G a_is_record, k_is_record, b_is_record⟩
  have F_split_texts := fun_mk (st := s_split_texts) l_split_texts c_split_texts k_split_texts
  have b_split_texts := F_split_texts.binds (ps := ["numbers"]) fun _ _ _ _ _ _ us hl => match us, hl with | [_], _ => rfl
  have D_split_texts : DefOk P w K mg base CX0 1 "split_texts" ["numbers"] (sp_split_texts K A) := ⟨_, _, ok_split_texts F_split_texts T  (fun vs H Q E h => pure_split_texts T  vs H Q E h), PySem.W.mg_of X G a_split_texts, k_split_texts, b_split_texts⟩
  have F_told_record := fun_mk (st := s_told_record) l_told_record c_told_record k_told_record
  have b_told_record := F_told_record.binds (ps := ["record"]) fun _ _ _ _ _ _ us hl => match us, hl with | [_], _ => rfl
  have D_told_record : DefOk P w K mg base CX0 1 "told_record" ["record"] (sp_told_record K A) := ⟨_, _, ok_told_record F_told_record T  (fun vs H Q E h => pure_told_record T  vs H Q E h), PySem.W.mg_of X G a_told_record, k_told_record, b_told_record⟩
  have F_split_calls := fun_mk (st := s_split_calls) l_split_calls c_split_calls k_split_calls
  have b_split_calls := F_split_calls.binds (ps := ["calls"]) fun _ _ _ _ _ _ us hl => match us, hl with | [_], _ => rfl
  have D_split_calls : DefOk P w K mg base CX0 3 "split_calls" ["calls"] (sp_split_calls K A) := ⟨_, _, ok_split_calls F_split_calls T D_new_Call (fun vs H Q E h => pure_split_calls T B vs H Q E h), PySem.W.mg_of X G a_split_calls, k_split_calls, b_split_calls⟩
  have F_need_text := fun_mk (st := s_need_text) l_need_text c_need_text k_need_text
  have b_need_text := F_need_text.binds (ps := ["text"]) fun _ _ _ _ _ _ us hl => match us, hl with | [_], _ => rfl
  have D_need_text : DefOk P w K mg base (L2.CX P w) 2 "need_text" ["text"] (sp_need_text K A) := ⟨_, _, ok_need_text F_need_text T D_is_plain D_err_NoSuchText (fun vs H Q E h => pure_need_text T  vs H Q E h), PySem.W.mg_of X G a_need_text, k_need_text, b_need_text⟩
  have F_common_beginning := fun_mk (st := s_common_beginning) l_common_beginning c_common_beginning k_common_beginning
  have b_common_beginning := F_common_beginning.binds (ps := ["left", "right"]) fun _ _ _ _ _ _ us hl => match us, hl with | [_, _], _ => rfl
  have D_common_beginning : DefOk P w K mg base CX0 1 "common_beginning" ["left", "right"] (sp_common_beginning K A) := ⟨_, _, ok_common_beginning F_common_beginning T  (fun vs H Q E h => pure_common_beginning T  vs H Q E h), PySem.W.mg_of X G a_common_beginning, k_common_beginning, b_common_beginning⟩
  have F_common_end := fun_mk (st := s_common_end) l_common_end c_common_end k_common_end
  have b_common_end := F_common_end.binds (ps := ["left", "right", "first"]) fun _ _ _ _ _ _ us hl => match us, hl with | [_, _, _], _ => rfl
  have D_common_end : DefOk P w K mg base CX0 1 "common_end" ["left", "right", "first"] (sp_common_end K A) := ⟨_, _, ok_common_end F_common_end T  (fun vs H Q E h => pure_common_end T  vs H Q E h), PySem.W.mg_of X G a_common_end, k_common_end, b_common_end⟩
  have F_narrowed := fun_mk (st := s_narrowed) l_narrowed c_narrowed k_narrowed
  have b_narrowed := F_narrowed.binds (ps := ["output", "edit"]) fun _ _ _ _ _ _ us hl => match us, hl with | [_, _], _ => rfl
  have D_narrowed : DefOk P w K mg base CX0 3 "narrowed" ["output", "edit"] (sp_narrowed K A) := ⟨_, _, ok_narrowed F_narrowed T D_common_beginning D_common_end D_new_Edit (fun vs H Q E h => pure_narrowed T  vs H Q E h), PySem.W.mg_of X G a_narrowed, k_narrowed, b_narrowed⟩
  have F_holders := fun_mk (st := s_holders) l_holders c_holders k_holders
  have b_holders := F_holders.binds (ps := ["shown", "edit"]) fun _ _ _ _ _ _ us hl => match us, hl with | [_, _], _ => rfl
  have D_holders : DefOk P w K mg base CX0 1 "holders" ["shown", "edit"] (sp_holders K A) := ⟨_, _, ok_holders F_holders T  (fun vs H Q E h => pure_holders T  vs H Q E h), PySem.W.mg_of X G a_holders, k_holders, b_holders⟩
  have F_changed_record := fun_mk (st := s_changed_record) l_changed_record c_changed_record k_changed_record
  have b_changed_record := F_changed_record.binds (ps := ["record", "given", "begin", "edit"]) fun _ _ _ _ _ _ us hl => match us, hl with | [_, _, _, _], _ => rfl
  have D_changed_record : DefOk P w K mg base CX0 1 "changed_record" ["record", "given", "begin", "edit"] (sp_changed_record K A) := ⟨_, _, ok_changed_record F_changed_record T  (fun vs H Q E h => pure_changed_record T  vs H Q E h), PySem.W.mg_of X G a_changed_record, k_changed_record, b_changed_record⟩
  have F_gives := fun_mk (st := s_gives) l_gives c_gives k_gives
  have b_gives := F_gives.binds (ps := ["program", "record", "wanted"]) fun _ _ _ _ _ _ us hl => match us, hl with | [_, _, _], _ => rfl
  have D_gives : DefOk P w K mg base CX0 8 "gives" ["program", "record", "wanted"] (sp_gives K A) := ⟨_, _, ok_gives F_gives T D_all_given D_joined (fun vs H Q E h => pure_gives T  vs H Q E h), PySem.W.mg_of X G a_gives, k_gives, b_gives⟩
  have F_led_back := fun_mk (st := s_led_back) l_led_back c_led_back k_led_back
  have b_led_back := F_led_back.binds (ps := ["shown", "edit"]) fun _ _ _ _ _ _ us hl => match us, hl with | [_, _], _ => rfl
  have D_led_back : DefOk P w K mg base (L2.CX P w) 9 "led_back" ["shown", "edit"] (sp_led_back K A) := ⟨_, _, ok_led_back F_led_back T D_err_NoSuchPlace D_need_text D_holders D_err_NoPart D_narrowed D_changed_record D_is_record D_gives D_err_NotLedBack (fun vs H Q E h => pure_led_back T  vs H Q E h), PySem.W.mg_of X G a_led_back, k_led_back, b_led_back⟩
  have F_is_led_back := fun_mk (st := s_is_led_back) l_is_led_back c_is_led_back k_is_led_back
  have b_is_led_back := F_is_led_back.binds (ps := ["shown", "edit"]) fun _ _ _ _ _ _ us hl => match us, hl with | [_, _], _ => rfl
  have D_is_led_back : DefOk P w K mg base (L2.CX P w) 10 "is_led_back" ["shown", "edit"] (sp_is_led_back K A) := ⟨_, _, ok_is_led_back F_is_led_back T D_led_back (fun vs H Q E h => pure_is_led_back T  vs H Q E h), PySem.W.mg_of X G a_is_led_back, k_is_led_back, b_is_led_back⟩
  have F_whole_edit := fun_mk (st := s_whole_edit) l_whole_edit c_whole_edit k_whole_edit
  have b_whole_edit := F_whole_edit.binds (ps := ["shown", "text"]) fun _ _ _ _ _ _ us hl => match us, hl with | [_, _], _ => rfl
  have D_whole_edit : DefOk P w K mg base CX0 4 "whole_edit" ["shown", "text"] (sp_whole_edit K A) := ⟨_, _, ok_whole_edit F_whole_edit T D_new_Edit D_narrowed (fun vs H Q E h => pure_whole_edit T  vs H Q E h), PySem.W.mg_of X G a_whole_edit, k_whole_edit, b_whole_edit⟩
  have F_free_bytes := fun_mk (st := s_free_bytes) l_free_bytes c_free_bytes k_free_bytes
  have b_free_bytes := F_free_bytes.binds (ps := ["shown", "place"]) fun _ _ _ _ _ _ us hl => match us, hl with | [_, _], _ => rfl
  have D_free_bytes : DefOk P w K mg base (L2.CX P w) 11 "free_bytes" ["shown", "place"] (sp_free_bytes K A) := ⟨_, _, ok_free_bytes F_free_bytes T D_new_Edit D_is_led_back (fun vs H Q E h => pure_free_bytes T  vs H Q E h), PySem.W.mg_of X G a_free_bytes, k_free_bytes, b_free_bytes⟩
  have F_Shown_init := fun_mk (st := s_Shown_init) l_Shown_init c_Shown_init k_Shown_init
  have b_Shown_init := F_Shown_init.binds (ps := ["self", "program", "record"]) fun _ _ _ _ _ _ us hl => match us, hl with | [_, _, _], _ => rfl
  have D_mx_Shown : MkX P w K mg base (L2.CX P w) 8 A.c_Shown "Shown" ["self", "program", "record"] (sp_Shown_init K A) := ⟨_, _, ok_Shown_init F_Shown_init T D_all_given D_joined (fun vs H Q E h => pure_Shown_init T  vs H Q E h), PySem.W.mg_of X G a_Shown, mk_Shown, b_Shown_init⟩
  have F_edited_record := fun_mk (st := s_edited_record) l_edited_record c_edited_record k_edited_record
  have b_edited_record := F_edited_record.binds (ps := ["desk", "call"]) fun _ _ _ _ _ _ us hl => match us, hl with | [_, _], _ => rfl
  have D_edited_record : DefOk P w K mg base (L2.CX P w) 10 "edited_record" ["desk", "call"] (sp_edited_record K A) := ⟨_, _, ok_edited_record F_edited_record T D_new_Edit D_mx_Shown D_led_back (fun vs H Q E h => pure_edited_record T  vs H Q E h), PySem.W.mg_of X G a_edited_record, k_edited_record, b_edited_record⟩
  have F_change_record := fun_mk (st := s_change_record) l_change_record c_change_record k_change_record
  have b_change_record := F_change_record.binds (ps := ["desk", "record"]) fun _ _ _ _ _ _ us hl => match us, hl with | [_, _], _ => rfl
  have D_change_record : DefOk P w K mg base CX0 1 "change_record" ["desk", "record"] (sp_change_record K A) := ⟨_, _, ok_change_record F_change_record T  (fun vs H Q E h => pure_change_record T  vs H Q E h), PySem.W.mg_of X G a_change_record, k_change_record, b_change_record⟩
  have F_answer_program := fun_mk (st := s_answer_program) l_answer_program c_answer_program k_answer_program
  have b_answer_program := F_answer_program.binds (ps := ["desk", "call"]) fun _ _ _ _ _ _ us hl => match us, hl with | [_, _], _ => rfl
  have O_answer_program : FnOk P w K mg base (L2.CX P w) 10 f_answer_program _ ["desk", "call"] (sp_answer_program K A) := ok_answer_program F_answer_program T D_read_program (fun vs H Q E h => pure_answer_program T  vs H Q E h)
  have D_answer_program : DefOk P w K mg base (L2.CX P w) 10 "answer_program" ["desk", "call"] (sp_answer_program K A) := ⟨_, _, O_answer_program, PySem.W.mg_of X G a_answer_program, k_answer_program, b_answer_program⟩
  have F_answer_record := fun_mk (st := s_answer_record) l_answer_record c_answer_record k_answer_record
  have b_answer_record := F_answer_record.binds (ps := ["desk", "call"]) fun _ _ _ _ _ _ us hl => match us, hl with | [_, _], _ => rfl
  have O_answer_record : FnOk P w K mg base (L2.CX P w) 4 f_answer_record _ ["desk", "call"] (sp_answer_record K A) := ok_answer_record F_answer_record T D_split_texts D_is_record (fun vs H Q E h => pure_answer_record T  vs H Q E h)
  have D_answer_record : DefOk P w K mg base (L2.CX P w) 4 "answer_record" ["desk", "call"] (sp_answer_record K A) := ⟨_, _, O_answer_record, PySem.W.mg_of X G a_answer_record, k_answer_record, b_answer_record⟩
  have F_answer_output := fun_mk (st := s_answer_output) l_answer_output c_answer_output k_answer_output
  have b_answer_output := F_answer_output.binds (ps := ["desk", "call"]) fun _ _ _ _ _ _ us hl => match us, hl with | [_, _], _ => rfl
  have O_answer_output : FnOk P w K mg base (L2.CX P w) 8 f_answer_output _ ["desk", "call"] (sp_answer_output K A) := ok_answer_output F_answer_output T D_all_given D_joined (fun vs H Q E h => pure_answer_output T  vs H Q E h)
  have D_answer_output : DefOk P w K mg base (L2.CX P w) 8 "answer_output" ["desk", "call"] (sp_answer_output K A) := ⟨_, _, O_answer_output, PySem.W.mg_of X G a_answer_output, k_answer_output, b_answer_output⟩
  have F_answer_fields := fun_mk (st := s_answer_fields) l_answer_fields c_answer_fields k_answer_fields
  have b_answer_fields := F_answer_fields.binds (ps := ["desk", "call"]) fun _ _ _ _ _ _ us hl => match us, hl with | [_, _], _ => rfl
  have O_answer_fields : FnOk P w K mg base (L2.CX P w) 2 f_answer_fields _ ["desk", "call"] (sp_answer_fields K A) := ok_answer_fields F_answer_fields T D_told_record (fun vs H Q E h => pure_answer_fields T  vs H Q E h)
  have D_answer_fields : DefOk P w K mg base (L2.CX P w) 2 "answer_fields" ["desk", "call"] (sp_answer_fields K A) := ⟨_, _, O_answer_fields, PySem.W.mg_of X G a_answer_fields, k_answer_fields, b_answer_fields⟩
  have F_answer_sources := fun_mk (st := s_answer_sources) l_answer_sources c_answer_sources k_answer_sources
  have b_answer_sources := F_answer_sources.binds (ps := ["desk", "call"]) fun _ _ _ _ _ _ us hl => match us, hl with | [_, _], _ => rfl
  have O_answer_sources : FnOk P w K mg base (L2.CX P w) 8 f_answer_sources _ ["desk", "call"] (sp_answer_sources K A) := ok_answer_sources F_answer_sources T D_Given_source D_all_given (fun vs H Q E h => pure_answer_sources T  vs H Q E h)
  have D_answer_sources : DefOk P w K mg base (L2.CX P w) 8 "answer_sources" ["desk", "call"] (sp_answer_sources K A) := ⟨_, _, O_answer_sources, PySem.W.mg_of X G a_answer_sources, k_answer_sources, b_answer_sources⟩
  have F_answer_piece := fun_mk (st := s_answer_piece) l_answer_piece c_answer_piece k_answer_piece
  have b_answer_piece := F_answer_piece.binds (ps := ["desk", "call"]) fun _ _ _ _ _ _ us hl => match us, hl with | [_, _], _ => rfl
  have O_answer_piece : FnOk P w K mg base (L2.CX P w) 8 f_answer_piece _ ["desk", "call"] (sp_answer_piece K A) := ok_answer_piece F_answer_piece T D_all_given (fun vs H Q E h => pure_answer_piece T  vs H Q E h)
  have D_answer_piece : DefOk P w K mg base (L2.CX P w) 8 "answer_piece" ["desk", "call"] (sp_answer_piece K A) := ⟨_, _, O_answer_piece, PySem.W.mg_of X G a_answer_piece, k_answer_piece, b_answer_piece⟩
  have F_answer_spread := fun_mk (st := s_answer_spread) l_answer_spread c_answer_spread k_answer_spread
  have b_answer_spread := F_answer_spread.binds (ps := ["desk", "call"]) fun _ _ _ _ _ _ us hl => match us, hl with | [_, _], _ => rfl
  have O_answer_spread : FnOk P w K mg base (L2.CX P w) 8 f_answer_spread _ ["desk", "call"] (sp_answer_spread K A) := ok_answer_spread F_answer_spread T D_all_given D_Given_source (fun vs H Q E h => pure_answer_spread T  vs H Q E h)
  have D_answer_spread : DefOk P w K mg base (L2.CX P w) 8 "answer_spread" ["desk", "call"] (sp_answer_spread K A) := ⟨_, _, O_answer_spread, PySem.W.mg_of X G a_answer_spread, k_answer_spread, b_answer_spread⟩
  have F_answer_could := fun_mk (st := s_answer_could) l_answer_could c_answer_could k_answer_could
  have b_answer_could := F_answer_could.binds (ps := ["desk", "call"]) fun _ _ _ _ _ _ us hl => match us, hl with | [_, _], _ => rfl
  have O_answer_could : FnOk P w K mg base (L2.CX P w) 11 f_answer_could _ ["desk", "call"] (sp_answer_could K A) := ok_answer_could F_answer_could T D_edited_record D_told_record (fun vs H Q E h => pure_answer_could T  vs H Q E h)
  have D_answer_could : DefOk P w K mg base (L2.CX P w) 11 "answer_could" ["desk", "call"] (sp_answer_could K A) := ⟨_, _, O_answer_could, PySem.W.mg_of X G a_answer_could, k_answer_could, b_answer_could⟩
  have F_answer_edit := fun_mk (st := s_answer_edit) l_answer_edit c_answer_edit k_answer_edit
  have b_answer_edit := F_answer_edit.binds (ps := ["desk", "call"]) fun _ _ _ _ _ _ us hl => match us, hl with | [_, _], _ => rfl
  have O_answer_edit : FnOk P w K mg base (L2.CX P w) 11 f_answer_edit _ ["desk", "call"] (sp_answer_edit K A) := ok_answer_edit F_answer_edit T D_edited_record D_change_record (fun vs H Q E h => pure_answer_edit T  vs H Q E h)
  have D_answer_edit : DefOk P w K mg base (L2.CX P w) 11 "answer_edit" ["desk", "call"] (sp_answer_edit K A) := ⟨_, _, O_answer_edit, PySem.W.mg_of X G a_answer_edit, k_answer_edit, b_answer_edit⟩
  have F_answer_whole := fun_mk (st := s_answer_whole) l_answer_whole c_answer_whole k_answer_whole
  have b_answer_whole := F_answer_whole.binds (ps := ["desk", "call"]) fun _ _ _ _ _ _ us hl => match us, hl with | [_, _], _ => rfl
  have O_answer_whole : FnOk P w K mg base (L2.CX P w) 10 f_answer_whole _ ["desk", "call"] (sp_answer_whole K A) := ok_answer_whole F_answer_whole T D_need_text D_mx_Shown D_whole_edit D_led_back D_change_record (fun vs H Q E h => pure_answer_whole T  vs H Q E h)
  have D_answer_whole : DefOk P w K mg base (L2.CX P w) 10 "answer_whole" ["desk", "call"] (sp_answer_whole K A) := ⟨_, _, O_answer_whole, PySem.W.mg_of X G a_answer_whole, k_answer_whole, b_answer_whole⟩
  have F_answer_free := fun_mk (st := s_answer_free) l_answer_free c_answer_free k_answer_free
  have b_answer_free := F_answer_free.binds (ps := ["desk", "call"]) fun _ _ _ _ _ _ us hl => match us, hl with | [_, _], _ => rfl
  have O_answer_free : FnOk P w K mg base (L2.CX P w) 12 f_answer_free _ ["desk", "call"] (sp_answer_free K A) := ok_answer_free F_answer_free T D_mx_Shown D_free_bytes (fun vs H Q E h => pure_answer_free T  vs H Q E h)
  have D_answer_free : DefOk P w K mg base (L2.CX P w) 12 "answer_free" ["desk", "call"] (sp_answer_free K A) := ⟨_, _, O_answer_free, PySem.W.mg_of X G a_answer_free, k_answer_free, b_answer_free⟩
  have F_answer_undo := fun_mk (st := s_answer_undo) l_answer_undo c_answer_undo k_answer_undo
  have b_answer_undo := F_answer_undo.binds (ps := ["desk", "call"]) fun _ _ _ _ _ _ us hl => match us, hl with | [_, _], _ => rfl
  have O_answer_undo : FnOk P w K mg base (L2.CX P w) 1 f_answer_undo _ ["desk", "call"] (sp_answer_undo K A) := ok_answer_undo F_answer_undo T  (fun vs H Q E h => pure_answer_undo T  vs H Q E h)
  have D_answer_undo : DefOk P w K mg base (L2.CX P w) 1 "answer_undo" ["desk", "call"] (sp_answer_undo K A) := ⟨_, _, O_answer_undo, PySem.W.mg_of X G a_answer_undo, k_answer_undo, b_answer_undo⟩
  have D_tab_Ans : ∀ f sp, tb_Ans K A f sp → ∃ fd ps, FnOk P w K mg base (L2.CX P w) 12 f fd ps sp ∧ PySem.W.keepIn K (.ref f) = true ∧ Binds K fd ps [] := by
    rintro f sp (⟨rfl, rfl⟩ | ⟨rfl, rfl⟩ | ⟨rfl, rfl⟩ | ⟨rfl, rfl⟩ | ⟨rfl, rfl⟩ | ⟨rfl, rfl⟩ | ⟨rfl, rfl⟩ | ⟨rfl, rfl⟩ | ⟨rfl, rfl⟩ | ⟨rfl, rfl⟩ | ⟨rfl, rfl⟩ | ⟨rfl, rfl⟩)
    · exact ⟨_, _, O_answer_program.mono (by decide), k_answer_program, b_answer_program⟩
    · exact ⟨_, _, O_answer_record.mono (by decide), k_answer_record, b_answer_record⟩
    · exact ⟨_, _, O_answer_output.mono (by decide), k_answer_output, b_answer_output⟩
    · exact ⟨_, _, O_answer_fields.mono (by decide), k_answer_fields, b_answer_fields⟩
    · exact ⟨_, _, O_answer_sources.mono (by decide), k_answer_sources, b_answer_sources⟩
    · exact ⟨_, _, O_answer_piece.mono (by decide), k_answer_piece, b_answer_piece⟩
    · exact ⟨_, _, O_answer_spread.mono (by decide), k_answer_spread, b_answer_spread⟩
    · exact ⟨_, _, O_answer_could.mono (by decide), k_answer_could, b_answer_could⟩
    · exact ⟨_, _, O_answer_edit.mono (by decide), k_answer_edit, b_answer_edit⟩
    · exact ⟨_, _, O_answer_whole.mono (by decide), k_answer_whole, b_answer_whole⟩
    · exact ⟨_, _, O_answer_free.mono (by decide), k_answer_free, b_answer_free⟩
    · exact ⟨_, _, O_answer_undo.mono (by decide), k_answer_undo, b_answer_undo⟩
  have F_answer_call := fun_mk (st := s_answer_call) l_answer_call c_answer_call k_answer_call
  have b_answer_call := F_answer_call.binds (ps := ["desk", "call"]) fun _ _ _ _ _ _ us hl => match us, hl with | [_, _], _ => rfl
  have D_answer_call : DefOk P w K mg base CX0 13 "answer_call" ["desk", "call"] (sp_answer_call K A) := ⟨_, _, ok_answer_call F_answer_call T D_tab_Ans (fun vs H Q E h => pure_answer_call T W_ANSWERERS vs H Q E h), PySem.W.mg_of X G a_answer_call, k_answer_call, b_answer_call⟩
  have F_Desk_init := fun_mk (st := s_Desk_init) l_Desk_init c_Desk_init k_Desk_init
  have b_Desk_init := F_Desk_init.binds (ps := ["self"]) fun _ _ _ _ _ _ us hl => match us, hl with | [_], _ => rfl
  have D_mk_Desk : MkOk P w K mg base 1 A.c_Desk "Desk" ["self"] (sp_Desk_init K A) := ⟨_, _, ok_Desk_init F_Desk_init T  (fun vs H Q E h => pure_Desk_init T  vs H Q E h), PySem.W.mg_of X G a_Desk, mk_Desk, b_Desk_init⟩
  have b_answers := F_answers.binds (ps := ["calls"]) fun _ _ _ _ _ _ us hl => match us, hl with | [_], _ => rfl
  exact ok_answers F_answers T D_mk_Desk D_answer_call D_split_calls (fun vs H Q E h => pure_answers T  vs H Q E h)
theorem facts {P : Program} {w : World} {K : PySem.W.Frag} {h : Heap} {mg : Str → Option Value} {fa : Addr} (X : K.In h) (G : h.Ns mainGlobals mg) (hfa : mg "answers" = some (.ref fa)) (c : He.SaysE faAll fnAll K) (mi : mine K = true) :
    ∃ fd : FuncData, (∀ (s : Shared) (us : List Value), us.length = (["calls"] : List Str).length → BindsTo s fd ⟨us, []⟩ ((["calls"] : List Str).zip us)) ∧ ∀ base : Heap, K.In base → base.Ns mainGlobals mg → FnOk P w K mg base CX0 14 fa fd ["calls"] (spA K) := by
  obtain ⟨_, _, _, _, _, _, _, _, _, l_Call_init, c_Call_init⟩ := c.def_ 0 (d := d_Call_init) rfl
  obtain ⟨_, _, _, _, _, _, _, _, _, l_Given_init, c_Given_init⟩ := c.def_ 1 (d := d_Given_init) rfl
  obtain ⟨_, _, _, _, _, _, _, _, _, l_Given_source, c_Given_source⟩ := c.def_ 2 (d := d_Given_source) rfl
  obtain ⟨_, _, _, _, _, _, _, _, _, l_NoOutput_init, c_NoOutput_init⟩ := c.def_ 3 (d := d_NoOutput_init) rfl
  obtain ⟨_, _, _, _, _, _, _, _, _, l_Constant_init, c_Constant_init⟩ := c.def_ 4 (d := d_Constant_init) rfl
  obtain ⟨_, _, _, _, _, _, _, _, _, l_Constant_given_on, c_Constant_given_on⟩ := c.def_ 5 (d := d_Constant_given_on) rfl
  obtain ⟨_, _, _, _, _, _, _, _, _, l_Part_init, c_Part_init⟩ := c.def_ 6 (d := d_Part_init) rfl
  obtain ⟨_, _, _, _, _, _, _, _, _, l_Part_given_on, c_Part_given_on⟩ := c.def_ 7 (d := d_Part_given_on) rfl
  obtain ⟨_, _, _, _, _, _, _, _, _, l_Edit_init, c_Edit_init⟩ := c.def_ 8 (d := d_Edit_init) rfl
  obtain ⟨_, _, _, _, _, _, _, _, _, l_Shown_init, c_Shown_init⟩ := c.def_ 9 (d := d_Shown_init) rfl
  obtain ⟨_, _, _, _, _, _, _, _, _, l_FromStart_init, c_FromStart_init⟩ := c.def_ 10 (d := d_FromStart_init) rfl
  obtain ⟨_, _, _, _, _, _, _, _, _, l_FromStart_place_in, c_FromStart_place_in⟩ := c.def_ 11 (d := d_FromStart_place_in) rfl
  obtain ⟨_, _, _, _, _, _, _, _, _, l_FromEnd_init, c_FromEnd_init⟩ := c.def_ 12 (d := d_FromEnd_init) rfl
  obtain ⟨_, _, _, _, _, _, _, _, _, l_FromEnd_place_in, c_FromEnd_place_in⟩ := c.def_ 13 (d := d_FromEnd_place_in) rfl
  obtain ⟨_, _, _, _, _, _, _, _, _, l_Border_init, c_Border_init⟩ := c.def_ 14 (d := d_Border_init) rfl
  obtain ⟨_, _, _, _, _, _, _, _, _, l_Border_place_in, c_Border_place_in⟩ := c.def_ 15 (d := d_Border_place_in) rfl
  obtain ⟨_, _, _, _, _, _, _, _, _, l_Fault_init, c_Fault_init⟩ := c.def_ 16 (d := d_Fault_init) rfl
  obtain ⟨_, _, _, _, _, _, _, _, _, l_Reader_init, c_Reader_init⟩ := c.def_ 17 (d := d_Reader_init) rfl
  obtain ⟨_, _, _, _, _, _, _, _, _, l_Reader_stands_within, c_Reader_stands_within⟩ := c.def_ 18 (d := d_Reader_stands_within) rfl
  obtain ⟨_, _, _, _, _, _, _, _, _, l_Reader_stands, c_Reader_stands⟩ := c.def_ 19 (d := d_Reader_stands) rfl
  obtain ⟨_, _, _, _, _, _, _, _, _, l_Reader_skip, c_Reader_skip⟩ := c.def_ 20 (d := d_Reader_skip) rfl
  obtain ⟨_, _, _, _, _, _, _, _, _, l_Reader_take, c_Reader_take⟩ := c.def_ 21 (d := d_Reader_take) rfl
  obtain ⟨_, _, _, _, _, _, _, _, _, l_Reader_need, c_Reader_need⟩ := c.def_ 22 (d := d_Reader_need) rfl
  obtain ⟨_, _, _, _, _, _, _, _, _, l_Reader_need_end, c_Reader_need_end⟩ := c.def_ 23 (d := d_Reader_need_end) rfl
  obtain ⟨_, _, _, _, _, _, _, _, _, l_Desk_init, c_Desk_init⟩ := c.def_ 24 (d := d_Desk_init) rfl
  obtain ⟨_, _, _, _, _, _, _, _, _, l_split_calls, c_split_calls⟩ := c.def_ 25 (d := d_split_calls) rfl
  obtain ⟨_, _, _, _, _, _, _, _, _, l_capital, c_capital⟩ := c.def_ 26 (d := d_capital) rfl
  obtain ⟨_, _, _, _, _, _, _, _, _, l_small, c_small⟩ := c.def_ 27 (d := d_small) rfl
  obtain ⟨_, _, _, _, _, _, _, _, _, l_turned, c_turned⟩ := c.def_ 28 (d := d_turned) rfl
  obtain ⟨_, _, _, _, _, _, _, _, _, l_all_given, c_all_given⟩ := c.def_ 29 (d := d_all_given) rfl
  obtain ⟨_, _, _, _, _, _, _, _, _, l_joined, c_joined⟩ := c.def_ 30 (d := d_joined) rfl
  obtain ⟨_, _, _, _, _, _, _, _, _, l_is_plain, c_is_plain⟩ := c.def_ 31 (d := d_is_plain) rfl
  obtain ⟨_, _, _, _, _, _, _, _, _, l_is_field, c_is_field⟩ := c.def_ 32 (d := d_is_field) rfl
  obtain ⟨_, _, _, _, _, _, _, _, _, l_is_record, c_is_record⟩ := c.def_ 33 (d := d_is_record) rfl
  obtain ⟨_, _, _, _, _, _, _, _, _, l_split_texts, c_split_texts⟩ := c.def_ 34 (d := d_split_texts) rfl
  obtain ⟨_, _, _, _, _, _, _, _, _, l_told_record, c_told_record⟩ := c.def_ 35 (d := d_told_record) rfl
  obtain ⟨_, _, _, _, _, _, _, _, _, l_need_text, c_need_text⟩ := c.def_ 36 (d := d_need_text) rfl
  obtain ⟨_, _, _, _, _, _, _, _, _, l_common_beginning, c_common_beginning⟩ := c.def_ 37 (d := d_common_beginning) rfl
  obtain ⟨_, _, _, _, _, _, _, _, _, l_common_end, c_common_end⟩ := c.def_ 38 (d := d_common_end) rfl
  obtain ⟨_, _, _, _, _, _, _, _, _, l_narrowed, c_narrowed⟩ := c.def_ 39 (d := d_narrowed) rfl
  obtain ⟨_, _, _, _, _, _, _, _, _, l_holders, c_holders⟩ := c.def_ 40 (d := d_holders) rfl
  obtain ⟨_, _, _, _, _, _, _, _, _, l_changed_record, c_changed_record⟩ := c.def_ 41 (d := d_changed_record) rfl
  obtain ⟨_, _, _, _, _, _, _, _, _, l_gives, c_gives⟩ := c.def_ 42 (d := d_gives) rfl
  obtain ⟨_, _, _, _, _, _, _, _, _, l_led_back, c_led_back⟩ := c.def_ 43 (d := d_led_back) rfl
  obtain ⟨_, _, _, _, _, _, _, _, _, l_is_led_back, c_is_led_back⟩ := c.def_ 44 (d := d_is_led_back) rfl
  obtain ⟨_, _, _, _, _, _, _, _, _, l_whole_edit, c_whole_edit⟩ := c.def_ 45 (d := d_whole_edit) rfl
  obtain ⟨_, _, _, _, _, _, _, _, _, l_free_bytes, c_free_bytes⟩ := c.def_ 46 (d := d_free_bytes) rfl
  obtain ⟨_, _, _, _, _, _, _, _, _, l_in_spans, c_in_spans⟩ := c.def_ 47 (d := d_in_spans) rfl
  obtain ⟨_, _, _, _, _, _, _, _, _, l_is_letter_or_digit, c_is_letter_or_digit⟩ := c.def_ 48 (d := d_is_letter_or_digit) rfl
  obtain ⟨_, _, _, _, _, _, _, _, _, l_stands_behind, c_stands_behind⟩ := c.def_ 49 (d := d_stands_behind) rfl
  obtain ⟨_, _, _, _, _, _, _, _, _, l_begins, c_begins⟩ := c.def_ 50 (d := d_begins) rfl
  obtain ⟨_, _, _, _, _, _, _, _, _, l_ends, c_ends⟩ := c.def_ 51 (d := d_ends) rfl
  obtain ⟨_, _, _, _, _, _, _, _, _, l_borders, c_borders⟩ := c.def_ 52 (d := d_borders) rfl
  obtain ⟨_, _, _, _, _, _, _, _, _, l_read_program, c_read_program⟩ := c.def_ 53 (d := d_read_program) rfl
  obtain ⟨_, _, _, _, _, _, _, _, _, l_read_piece, c_read_piece⟩ := c.def_ 54 (d := d_read_piece) rfl
  obtain ⟨_, _, _, _, _, _, _, _, _, l_read_constant, c_read_constant⟩ := c.def_ 55 (d := d_read_constant) rfl
  obtain ⟨_, _, _, _, _, _, _, _, _, l_read_part, c_read_part⟩ := c.def_ 56 (d := d_read_part) rfl
  obtain ⟨_, _, _, _, _, _, _, _, _, l_read_turn, c_read_turn⟩ := c.def_ 57 (d := d_read_turn) rfl
  obtain ⟨_, _, _, _, _, _, _, _, _, l_read_position, c_read_position⟩ := c.def_ 58 (d := d_read_position) rfl
  obtain ⟨_, _, _, _, _, _, _, _, _, l_read_border, c_read_border⟩ := c.def_ 59 (d := d_read_border) rfl
  obtain ⟨_, _, _, _, _, _, _, _, _, l_read_class, c_read_class⟩ := c.def_ 60 (d := d_read_class) rfl
  obtain ⟨_, _, _, _, _, _, _, _, _, l_read_quoted, c_read_quoted⟩ := c.def_ 61 (d := d_read_quoted) rfl
  obtain ⟨_, _, _, _, _, _, _, _, _, l_read_digit, c_read_digit⟩ := c.def_ 62 (d := d_read_digit) rfl
  obtain ⟨_, _, _, _, _, _, _, _, _, l_read_number, c_read_number⟩ := c.def_ 63 (d := d_read_number) rfl
  obtain ⟨_, _, _, _, _, _, _, _, _, l_answer_program, c_answer_program⟩ := c.def_ 64 (d := d_answer_program) rfl
  obtain ⟨_, _, _, _, _, _, _, _, _, l_answer_record, c_answer_record⟩ := c.def_ 65 (d := d_answer_record) rfl
  obtain ⟨_, _, _, _, _, _, _, _, _, l_answer_output, c_answer_output⟩ := c.def_ 66 (d := d_answer_output) rfl
  obtain ⟨_, _, _, _, _, _, _, _, _, l_answer_fields, c_answer_fields⟩ := c.def_ 67 (d := d_answer_fields) rfl
  obtain ⟨_, _, _, _, _, _, _, _, _, l_answer_sources, c_answer_sources⟩ := c.def_ 68 (d := d_answer_sources) rfl
  obtain ⟨_, _, _, _, _, _, _, _, _, l_answer_piece, c_answer_piece⟩ := c.def_ 69 (d := d_answer_piece) rfl
  obtain ⟨_, _, _, _, _, _, _, _, _, l_answer_spread, c_answer_spread⟩ := c.def_ 70 (d := d_answer_spread) rfl
  obtain ⟨_, _, _, _, _, _, _, _, _, l_edited_record, c_edited_record⟩ := c.def_ 71 (d := d_edited_record) rfl
  obtain ⟨_, _, _, _, _, _, _, _, _, l_change_record, c_change_record⟩ := c.def_ 72 (d := d_change_record) rfl
  obtain ⟨_, _, _, _, _, _, _, _, _, l_answer_could, c_answer_could⟩ := c.def_ 73 (d := d_answer_could) rfl
  obtain ⟨_, _, _, _, _, _, _, _, _, l_answer_edit, c_answer_edit⟩ := c.def_ 74 (d := d_answer_edit) rfl
  obtain ⟨_, _, _, _, _, _, _, _, _, l_answer_whole, c_answer_whole⟩ := c.def_ 75 (d := d_answer_whole) rfl
  obtain ⟨_, _, _, _, _, _, _, _, _, l_answer_free, c_answer_free⟩ := c.def_ 76 (d := d_answer_free) rfl
  obtain ⟨_, _, _, _, _, _, _, _, _, l_answer_undo, c_answer_undo⟩ := c.def_ 77 (d := d_answer_undo) rfl
  obtain ⟨_, _, _, _, _, _, _, _, _, l_answer_call, c_answer_call⟩ := c.def_ 78 (d := d_answer_call) rfl
  obtain ⟨_, _, _, _, _, _, _, _, _, l_answers, c_answers⟩ := c.def_ 79 (d := d_answers) rfl
  obtain ⟨m_Fault, mi⟩ := Bool.and_eq_true_iff.mp mi
  obtain ⟨m_NoOutput, mi⟩ := Bool.and_eq_true_iff.mp mi
  obtain ⟨m_NoSuchPlace, mi⟩ := Bool.and_eq_true_iff.mp mi
  obtain ⟨m_NoSuchText, mi⟩ := Bool.and_eq_true_iff.mp mi
  obtain ⟨m_NoPart, mi⟩ := Bool.and_eq_true_iff.mp mi
  obtain ⟨m_NotLedBack, mi⟩ := Bool.and_eq_true_iff.mp mi
  obtain ⟨m_SHAPES, mi⟩ := Bool.and_eq_true_iff.mp mi
  obtain ⟨m_LETTERS_AND_DIGITS, mi⟩ := Bool.and_eq_true_iff.mp mi
  obtain ⟨m_CLASSES, m_ANSWERERS⟩ := Bool.and_eq_true_iff.mp mi
  exact all_mk X G hfa
    (He.eqO_ok (c.fact 0 (f := .glo "Call") rfl))
    (He.cls_ok (c.fact 1 (f := .cls "Call") rfl))
    (He.mkr_ok (c.fact 2 (f := .mkr "Call") rfl))
    (He.noat_ok (c.fact 3 (f := .noat "Call" "kind") rfl))
    (He.noat_ok (c.fact 4 (f := .noat "Call" "numbers") rfl))
    (He.noat_ok (c.fact 5 (f := .noat "Call" "row") rfl))
    (l_Call_init)
    (c_Call_init)
    ((He.meth_ok (c.fact 6 (f := .meth "Call" "__init__") rfl)).kp)
    (He.eqO_ok (c.fact 7 (f := .glo "Given") rfl))
    (He.cls_ok (c.fact 8 (f := .cls "Given") rfl))
    (He.mkr_ok (c.fact 9 (f := .mkr "Given") rfl))
    (He.noat_ok (c.fact 10 (f := .noat "Given" "text") rfl))
    (He.noat_ok (c.fact 11 (f := .noat "Given" "field") rfl))
    (He.noat_ok (c.fact 12 (f := .noat "Given" "start") rfl))
    (l_Given_init)
    (c_Given_init)
    ((He.meth_ok (c.fact 13 (f := .meth "Given" "__init__") rfl)).kp)
    (He.meth_ok (c.fact 14 (f := .meth "Given" "source") rfl))
    (l_Given_source)
    (c_Given_source)
    ((He.meth_ok (c.fact 14 (f := .meth "Given" "source") rfl)).kp)
    (He.eqO_ok (c.fact 15 (f := .glo "NoOutput") rfl))
    (errB_ok m_NoOutput)
    (He.noat_ok (c.fact 16 (f := .noat "NoOutput" "piece") rfl))
    (l_NoOutput_init)
    (c_NoOutput_init)
    ((He.meth_ok (c.fact 17 (f := .meth "NoOutput" "__init__") rfl)).kp)
    (He.eqO_ok (c.fact 18 (f := .glo "Constant") rfl))
    (He.cls_ok (c.fact 19 (f := .cls "Constant") rfl))
    (He.mkr_ok (c.fact 20 (f := .mkr "Constant") rfl))
    (He.noat_ok (c.fact 21 (f := .noat "Constant" "text") rfl))
    (l_Constant_init)
    (c_Constant_init)
    ((He.meth_ok (c.fact 22 (f := .meth "Constant" "__init__") rfl)).kp)
    (He.meth_ok (c.fact 23 (f := .meth "Constant" "given_on") rfl))
    (l_Constant_given_on)
    (c_Constant_given_on)
    ((He.meth_ok (c.fact 23 (f := .meth "Constant" "given_on") rfl)).kp)
    (He.eqO_ok (c.fact 24 (f := .glo "Part") rfl))
    (He.cls_ok (c.fact 25 (f := .cls "Part") rfl))
    (He.mkr_ok (c.fact 26 (f := .mkr "Part") rfl))
    (He.noat_ok (c.fact 27 (f := .noat "Part" "field") rfl))
    (He.noat_ok (c.fact 28 (f := .noat "Part" "first") rfl))
    (He.noat_ok (c.fact 29 (f := .noat "Part" "last") rfl))
    (He.noat_ok (c.fact 30 (f := .noat "Part" "turn") rfl))
    (l_Part_init)
    (c_Part_init)
    ((He.meth_ok (c.fact 31 (f := .meth "Part" "__init__") rfl)).kp)
    (He.meth_ok (c.fact 32 (f := .meth "Part" "given_on") rfl))
    (l_Part_given_on)
    (c_Part_given_on)
    ((He.meth_ok (c.fact 32 (f := .meth "Part" "given_on") rfl)).kp)
    (He.eqO_ok (c.fact 33 (f := .glo "NoSuchPlace") rfl))
    (bareB_ok m_NoSuchPlace (He.glo_ok X G (c.fact 33 (f := .glo "NoSuchPlace") rfl)) (He.keep_ok (c.fact 34 (f := .keep "NoSuchPlace") rfl)))
    (He.eqO_ok (c.fact 35 (f := .glo "NoSuchText") rfl))
    (bareB_ok m_NoSuchText (He.glo_ok X G (c.fact 35 (f := .glo "NoSuchText") rfl)) (He.keep_ok (c.fact 36 (f := .keep "NoSuchText") rfl)))
    (He.eqO_ok (c.fact 37 (f := .glo "NoPart") rfl))
    (bareB_ok m_NoPart (He.glo_ok X G (c.fact 37 (f := .glo "NoPart") rfl)) (He.keep_ok (c.fact 38 (f := .keep "NoPart") rfl)))
    (He.eqO_ok (c.fact 39 (f := .glo "NotLedBack") rfl))
    (bareB_ok m_NotLedBack (He.glo_ok X G (c.fact 39 (f := .glo "NotLedBack") rfl)) (He.keep_ok (c.fact 40 (f := .keep "NotLedBack") rfl)))
    (He.eqO_ok (c.fact 41 (f := .glo "Edit") rfl))
    (He.cls_ok (c.fact 42 (f := .cls "Edit") rfl))
    (He.mkr_ok (c.fact 43 (f := .mkr "Edit") rfl))
    (He.noat_ok (c.fact 44 (f := .noat "Edit" "start") rfl))
    (He.noat_ok (c.fact 45 (f := .noat "Edit" "end") rfl))
    (He.noat_ok (c.fact 46 (f := .noat "Edit" "text") rfl))
    (l_Edit_init)
    (c_Edit_init)
    ((He.meth_ok (c.fact 47 (f := .meth "Edit" "__init__") rfl)).kp)
    (He.eqO_ok (c.fact 48 (f := .glo "Shown") rfl))
    (He.cls_ok (c.fact 49 (f := .cls "Shown") rfl))
    (He.mkr_ok (c.fact 50 (f := .mkr "Shown") rfl))
    (He.noat_ok (c.fact 51 (f := .noat "Shown" "program") rfl))
    (He.noat_ok (c.fact 52 (f := .noat "Shown" "record") rfl))
    (He.noat_ok (c.fact 53 (f := .noat "Shown" "givens") rfl))
    (He.noat_ok (c.fact 54 (f := .noat "Shown" "output") rfl))
    (l_Shown_init)
    (c_Shown_init)
    ((He.meth_ok (c.fact 55 (f := .meth "Shown" "__init__") rfl)).kp)
    (He.eqO_ok (c.fact 56 (f := .glo "FromStart") rfl))
    (He.cls_ok (c.fact 57 (f := .cls "FromStart") rfl))
    (He.mkr_ok (c.fact 58 (f := .mkr "FromStart") rfl))
    (He.noat_ok (c.fact 59 (f := .noat "FromStart" "distance") rfl))
    (l_FromStart_init)
    (c_FromStart_init)
    ((He.meth_ok (c.fact 60 (f := .meth "FromStart" "__init__") rfl)).kp)
    (He.meth_ok (c.fact 61 (f := .meth "FromStart" "place_in") rfl))
    (l_FromStart_place_in)
    (c_FromStart_place_in)
    ((He.meth_ok (c.fact 61 (f := .meth "FromStart" "place_in") rfl)).kp)
    (He.eqO_ok (c.fact 62 (f := .glo "FromEnd") rfl))
    (He.cls_ok (c.fact 63 (f := .cls "FromEnd") rfl))
    (He.mkr_ok (c.fact 64 (f := .mkr "FromEnd") rfl))
    (He.noat_ok (c.fact 65 (f := .noat "FromEnd" "distance") rfl))
    (l_FromEnd_init)
    (c_FromEnd_init)
    ((He.meth_ok (c.fact 66 (f := .meth "FromEnd" "__init__") rfl)).kp)
    (He.meth_ok (c.fact 67 (f := .meth "FromEnd" "place_in") rfl))
    (l_FromEnd_place_in)
    (c_FromEnd_place_in)
    ((He.meth_ok (c.fact 67 (f := .meth "FromEnd" "place_in") rfl)).kp)
    (He.eqO_ok (c.fact 68 (f := .glo "Border") rfl))
    (He.cls_ok (c.fact 69 (f := .cls "Border") rfl))
    (He.mkr_ok (c.fact 70 (f := .mkr "Border") rfl))
    (He.noat_ok (c.fact 71 (f := .noat "Border" "left") rfl))
    (He.noat_ok (c.fact 72 (f := .noat "Border" "right") rfl))
    (He.noat_ok (c.fact 73 (f := .noat "Border" "nth") rfl))
    (He.noat_ok (c.fact 74 (f := .noat "Border" "from_right") rfl))
    (l_Border_init)
    (c_Border_init)
    ((He.meth_ok (c.fact 75 (f := .meth "Border" "__init__") rfl)).kp)
    (He.meth_ok (c.fact 76 (f := .meth "Border" "place_in") rfl))
    (l_Border_place_in)
    (c_Border_place_in)
    ((He.meth_ok (c.fact 76 (f := .meth "Border" "place_in") rfl)).kp)
    (He.eqO_ok (c.fact 77 (f := .glo "Fault") rfl))
    (errB_ok m_Fault)
    (He.noat_ok (c.fact 78 (f := .noat "Fault" "kind") rfl))
    (He.noat_ok (c.fact 79 (f := .noat "Fault" "place") rfl))
    (l_Fault_init)
    (c_Fault_init)
    ((He.meth_ok (c.fact 80 (f := .meth "Fault" "__init__") rfl)).kp)
    (He.eqO_ok (c.fact 81 (f := .glo "Reader") rfl))
    (He.cls_ok (c.fact 82 (f := .cls "Reader") rfl))
    (He.mkr_ok (c.fact 83 (f := .mkr "Reader") rfl))
    (He.noat_ok (c.fact 84 (f := .noat "Reader" "text") rfl))
    (He.noat_ok (c.fact 85 (f := .noat "Reader" "place") rfl))
    (l_Reader_init)
    (c_Reader_init)
    ((He.meth_ok (c.fact 86 (f := .meth "Reader" "__init__") rfl)).kp)
    (He.meth_ok (c.fact 87 (f := .meth "Reader" "stands_within") rfl))
    (l_Reader_stands_within)
    (c_Reader_stands_within)
    ((He.meth_ok (c.fact 87 (f := .meth "Reader" "stands_within") rfl)).kp)
    (He.meth_ok (c.fact 88 (f := .meth "Reader" "stands") rfl))
    (l_Reader_stands)
    (c_Reader_stands)
    ((He.meth_ok (c.fact 88 (f := .meth "Reader" "stands") rfl)).kp)
    (He.meth_ok (c.fact 89 (f := .meth "Reader" "skip") rfl))
    (l_Reader_skip)
    (c_Reader_skip)
    ((He.meth_ok (c.fact 89 (f := .meth "Reader" "skip") rfl)).kp)
    (He.meth_ok (c.fact 90 (f := .meth "Reader" "take") rfl))
    (l_Reader_take)
    (c_Reader_take)
    ((He.meth_ok (c.fact 90 (f := .meth "Reader" "take") rfl)).kp)
    (He.meth_ok (c.fact 91 (f := .meth "Reader" "need") rfl))
    (l_Reader_need)
    (c_Reader_need)
    ((He.meth_ok (c.fact 91 (f := .meth "Reader" "need") rfl)).kp)
    (He.meth_ok (c.fact 92 (f := .meth "Reader" "need_end") rfl))
    (l_Reader_need_end)
    (c_Reader_need_end)
    ((He.meth_ok (c.fact 92 (f := .meth "Reader" "need_end") rfl)).kp)
    (He.eqO_ok (c.fact 93 (f := .glo "Desk") rfl))
    (He.cls_ok (c.fact 94 (f := .cls "Desk") rfl))
    (He.mkr_ok (c.fact 95 (f := .mkr "Desk") rfl))
    (He.noat_ok (c.fact 96 (f := .noat "Desk" "program") rfl))
    (He.noat_ok (c.fact 97 (f := .noat "Desk" "record") rfl))
    (He.noat_ok (c.fact 98 (f := .noat "Desk" "past") rfl))
    (l_Desk_init)
    (c_Desk_init)
    ((He.meth_ok (c.fact 99 (f := .meth "Desk" "__init__") rfl)).kp)
    (He.eqO_ok (c.fact 100 (f := .glo "split_calls") rfl))
    (l_split_calls)
    (c_split_calls)
    (He.keep_ok (c.fact 101 (f := .keep "split_calls") rfl))
    (He.eqO_ok (c.fact 102 (f := .glo "capital") rfl))
    (l_capital)
    (c_capital)
    (He.keep_ok (c.fact 103 (f := .keep "capital") rfl))
    (He.eqO_ok (c.fact 104 (f := .glo "small") rfl))
    (l_small)
    (c_small)
    (He.keep_ok (c.fact 105 (f := .keep "small") rfl))
    (He.eqO_ok (c.fact 106 (f := .glo "turned") rfl))
    (l_turned)
    (c_turned)
    (He.keep_ok (c.fact 107 (f := .keep "turned") rfl))
    (He.eqO_ok (c.fact 108 (f := .glo "all_given") rfl))
    (l_all_given)
    (c_all_given)
    (He.keep_ok (c.fact 109 (f := .keep "all_given") rfl))
    (He.eqO_ok (c.fact 110 (f := .glo "joined") rfl))
    (l_joined)
    (c_joined)
    (He.keep_ok (c.fact 111 (f := .keep "joined") rfl))
    (He.eqO_ok (c.fact 112 (f := .glo "is_plain") rfl))
    (l_is_plain)
    (c_is_plain)
    (He.keep_ok (c.fact 113 (f := .keep "is_plain") rfl))
    (He.eqO_ok (c.fact 114 (f := .glo "is_field") rfl))
    (l_is_field)
    (c_is_field)
    (He.keep_ok (c.fact 115 (f := .keep "is_field") rfl))
    (He.eqO_ok (c.fact 116 (f := .glo "is_record") rfl))
    (l_is_record)
    (c_is_record)
    (He.keep_ok (c.fact 117 (f := .keep "is_record") rfl))
    (He.eqO_ok (c.fact 118 (f := .glo "split_texts") rfl))
    (l_split_texts)
    (c_split_texts)
    (He.keep_ok (c.fact 119 (f := .keep "split_texts") rfl))
    (He.eqO_ok (c.fact 120 (f := .glo "told_record") rfl))
    (l_told_record)
    (c_told_record)
    (He.keep_ok (c.fact 121 (f := .keep "told_record") rfl))
    (He.eqO_ok (c.fact 122 (f := .glo "need_text") rfl))
    (l_need_text)
    (c_need_text)
    (He.keep_ok (c.fact 123 (f := .keep "need_text") rfl))
    (He.eqO_ok (c.fact 124 (f := .glo "common_beginning") rfl))
    (l_common_beginning)
    (c_common_beginning)
    (He.keep_ok (c.fact 125 (f := .keep "common_beginning") rfl))
    (He.eqO_ok (c.fact 126 (f := .glo "common_end") rfl))
    (l_common_end)
    (c_common_end)
    (He.keep_ok (c.fact 127 (f := .keep "common_end") rfl))
    (He.eqO_ok (c.fact 128 (f := .glo "narrowed") rfl))
    (l_narrowed)
    (c_narrowed)
    (He.keep_ok (c.fact 129 (f := .keep "narrowed") rfl))
    (He.eqO_ok (c.fact 130 (f := .glo "holders") rfl))
    (l_holders)
    (c_holders)
    (He.keep_ok (c.fact 131 (f := .keep "holders") rfl))
    (He.eqO_ok (c.fact 132 (f := .glo "changed_record") rfl))
    (l_changed_record)
    (c_changed_record)
    (He.keep_ok (c.fact 133 (f := .keep "changed_record") rfl))
    (He.eqO_ok (c.fact 134 (f := .glo "gives") rfl))
    (l_gives)
    (c_gives)
    (He.keep_ok (c.fact 135 (f := .keep "gives") rfl))
    (He.eqO_ok (c.fact 136 (f := .glo "led_back") rfl))
    (l_led_back)
    (c_led_back)
    (He.keep_ok (c.fact 137 (f := .keep "led_back") rfl))
    (He.eqO_ok (c.fact 138 (f := .glo "is_led_back") rfl))
    (l_is_led_back)
    (c_is_led_back)
    (He.keep_ok (c.fact 139 (f := .keep "is_led_back") rfl))
    (He.eqO_ok (c.fact 140 (f := .glo "whole_edit") rfl))
    (l_whole_edit)
    (c_whole_edit)
    (He.keep_ok (c.fact 141 (f := .keep "whole_edit") rfl))
    (He.eqO_ok (c.fact 142 (f := .glo "free_bytes") rfl))
    (l_free_bytes)
    (c_free_bytes)
    (He.keep_ok (c.fact 143 (f := .keep "free_bytes") rfl))
    (He.eqO_ok (c.fact 144 (f := .glo "in_spans") rfl))
    (l_in_spans)
    (c_in_spans)
    (He.keep_ok (c.fact 145 (f := .keep "in_spans") rfl))
    (He.eqO_ok (c.fact 146 (f := .glo "is_letter_or_digit") rfl))
    (l_is_letter_or_digit)
    (c_is_letter_or_digit)
    (He.keep_ok (c.fact 147 (f := .keep "is_letter_or_digit") rfl))
    (He.eqO_ok (c.fact 148 (f := .glo "stands_behind") rfl))
    (l_stands_behind)
    (c_stands_behind)
    (He.keep_ok (c.fact 149 (f := .keep "stands_behind") rfl))
    (He.eqO_ok (c.fact 150 (f := .glo "begins") rfl))
    (l_begins)
    (c_begins)
    (He.keep_ok (c.fact 151 (f := .keep "begins") rfl))
    (He.eqO_ok (c.fact 152 (f := .glo "ends") rfl))
    (l_ends)
    (c_ends)
    (He.keep_ok (c.fact 153 (f := .keep "ends") rfl))
    (He.eqO_ok (c.fact 154 (f := .glo "borders") rfl))
    (l_borders)
    (c_borders)
    (He.keep_ok (c.fact 155 (f := .keep "borders") rfl))
    (He.eqO_ok (c.fact 156 (f := .glo "read_program") rfl))
    (l_read_program)
    (c_read_program)
    (He.keep_ok (c.fact 157 (f := .keep "read_program") rfl))
    (He.eqO_ok (c.fact 158 (f := .glo "read_piece") rfl))
    (l_read_piece)
    (c_read_piece)
    (He.keep_ok (c.fact 159 (f := .keep "read_piece") rfl))
    (He.eqO_ok (c.fact 160 (f := .glo "read_constant") rfl))
    (l_read_constant)
    (c_read_constant)
    (He.keep_ok (c.fact 161 (f := .keep "read_constant") rfl))
    (He.eqO_ok (c.fact 162 (f := .glo "read_part") rfl))
    (l_read_part)
    (c_read_part)
    (He.keep_ok (c.fact 163 (f := .keep "read_part") rfl))
    (He.eqO_ok (c.fact 164 (f := .glo "read_turn") rfl))
    (l_read_turn)
    (c_read_turn)
    (He.keep_ok (c.fact 165 (f := .keep "read_turn") rfl))
    (He.eqO_ok (c.fact 166 (f := .glo "read_position") rfl))
    (l_read_position)
    (c_read_position)
    (He.keep_ok (c.fact 167 (f := .keep "read_position") rfl))
    (He.eqO_ok (c.fact 168 (f := .glo "read_border") rfl))
    (l_read_border)
    (c_read_border)
    (He.keep_ok (c.fact 169 (f := .keep "read_border") rfl))
    (He.eqO_ok (c.fact 170 (f := .glo "read_class") rfl))
    (l_read_class)
    (c_read_class)
    (He.keep_ok (c.fact 171 (f := .keep "read_class") rfl))
    (He.eqO_ok (c.fact 172 (f := .glo "read_quoted") rfl))
    (l_read_quoted)
    (c_read_quoted)
    (He.keep_ok (c.fact 173 (f := .keep "read_quoted") rfl))
    (He.eqO_ok (c.fact 174 (f := .glo "read_digit") rfl))
    (l_read_digit)
    (c_read_digit)
    (He.keep_ok (c.fact 175 (f := .keep "read_digit") rfl))
    (He.eqO_ok (c.fact 176 (f := .glo "read_number") rfl))
    (l_read_number)
    (c_read_number)
    (He.keep_ok (c.fact 177 (f := .keep "read_number") rfl))
    (He.eqO_ok (c.fact 178 (f := .glo "answer_program") rfl))
    (l_answer_program)
    (c_answer_program)
    (He.keep_ok (c.fact 179 (f := .keep "answer_program") rfl))
    (He.eqO_ok (c.fact 180 (f := .glo "answer_record") rfl))
    (l_answer_record)
    (c_answer_record)
    (He.keep_ok (c.fact 181 (f := .keep "answer_record") rfl))
    (He.eqO_ok (c.fact 182 (f := .glo "answer_output") rfl))
    (l_answer_output)
    (c_answer_output)
    (He.keep_ok (c.fact 183 (f := .keep "answer_output") rfl))
    (He.eqO_ok (c.fact 184 (f := .glo "answer_fields") rfl))
    (l_answer_fields)
    (c_answer_fields)
    (He.keep_ok (c.fact 185 (f := .keep "answer_fields") rfl))
    (He.eqO_ok (c.fact 186 (f := .glo "answer_sources") rfl))
    (l_answer_sources)
    (c_answer_sources)
    (He.keep_ok (c.fact 187 (f := .keep "answer_sources") rfl))
    (He.eqO_ok (c.fact 188 (f := .glo "answer_piece") rfl))
    (l_answer_piece)
    (c_answer_piece)
    (He.keep_ok (c.fact 189 (f := .keep "answer_piece") rfl))
    (He.eqO_ok (c.fact 190 (f := .glo "answer_spread") rfl))
    (l_answer_spread)
    (c_answer_spread)
    (He.keep_ok (c.fact 191 (f := .keep "answer_spread") rfl))
    (He.eqO_ok (c.fact 192 (f := .glo "edited_record") rfl))
    (l_edited_record)
    (c_edited_record)
    (He.keep_ok (c.fact 193 (f := .keep "edited_record") rfl))
    (He.eqO_ok (c.fact 194 (f := .glo "change_record") rfl))
    (l_change_record)
    (c_change_record)
    (He.keep_ok (c.fact 195 (f := .keep "change_record") rfl))
    (He.eqO_ok (c.fact 196 (f := .glo "answer_could") rfl))
    (l_answer_could)
    (c_answer_could)
    (He.keep_ok (c.fact 197 (f := .keep "answer_could") rfl))
    (He.eqO_ok (c.fact 198 (f := .glo "answer_edit") rfl))
    (l_answer_edit)
    (c_answer_edit)
    (He.keep_ok (c.fact 199 (f := .keep "answer_edit") rfl))
    (He.eqO_ok (c.fact 200 (f := .glo "answer_whole") rfl))
    (l_answer_whole)
    (c_answer_whole)
    (He.keep_ok (c.fact 201 (f := .keep "answer_whole") rfl))
    (He.eqO_ok (c.fact 202 (f := .glo "answer_free") rfl))
    (l_answer_free)
    (c_answer_free)
    (He.keep_ok (c.fact 203 (f := .keep "answer_free") rfl))
    (He.eqO_ok (c.fact 204 (f := .glo "answer_undo") rfl))
    (l_answer_undo)
    (c_answer_undo)
    (He.keep_ok (c.fact 205 (f := .keep "answer_undo") rfl))
    (He.eqO_ok (c.fact 206 (f := .glo "answer_call") rfl))
    (l_answer_call)
    (c_answer_call)
    (He.keep_ok (c.fact 207 (f := .keep "answer_call") rfl))
    (He.eqO_ok (c.fact 208 (f := .glo "answers") rfl))
    (l_answers)
    (c_answers)
    (He.keep_ok (c.fact 209 (f := .keep "answers") rfl))
    (He.eqO_ok (c.fact 210 (f := .glo "SHAPES") rfl))
    (He.int_ok X G (c.fact 211 (f := .int "MOST_FIELDS" 4) rfl))
    (He.int_ok X G (c.fact 212 (f := .int "LONGEST_FIELD" 40) rfl))
    (He.int_ok X G (c.fact 213 (f := .int "LOWEST_BYTE" 32) rfl))
    (He.int_ok X G (c.fact 214 (f := .int "HIGHEST_BYTE" 126) rfl))
    (He.int_ok X G (c.fact 215 (f := .int "LONGEST_TEXT" 240) rfl))
    (He.eqO_ok (c.fact 216 (f := .glo "LETTERS_AND_DIGITS") rfl))
    (He.eqO_ok (c.fact 217 (f := .glo "CLASSES") rfl))
    (He.int_ok X G (c.fact 218 (f := .int "MOST_PIECES" 6) rfl))
    (He.int_ok X G (c.fact 219 (f := .int "LONGEST_CONSTANT" 12) rfl))
    (He.int_ok X G (c.fact 220 (f := .int "MISPLACED" 1) rfl))
    (He.int_ok X G (c.fact 221 (f := .int "CONSTANT_LENGTH" 2) rfl))
    (He.int_ok X G (c.fact 222 (f := .int "NUMBER" 3) rfl))
    (He.int_ok X G (c.fact 223 (f := .int "TWO_EMPTY_CLASSES" 4) rfl))
    (He.int_ok X G (c.fact 224 (f := .int "PIECE_TOO_MANY" 5) rfl))
    (He.int_ok X G (c.fact 225 (f := .int "LONGEST_PROGRAM" 1000) rfl))
    (He.int_ok X G (c.fact 226 (f := .int "MOST_PAST" 50) rfl))
    (He.eqO_ok (c.fact 227 (f := .glo "ANSWERERS") rfl))
    (shapesB_ok m_SHAPES)
    (spansB_ok m_LETTERS_AND_DIGITS)
    (classesB_ok m_CLASSES)
    (dictB_ok (by show ([0, 1, 2, 3, 4, 5, 6, 7, 8, 9, 10, 11] : List Int).Nodup; decide) m_ANSWERERS)
    (He.exm_ok (c.fact 228 (f := .exm "NoOutput" "NoOutput" true) rfl))
    (He.exm_ok (c.fact 229 (f := .exm "NoOutput" "NoSuchText" false) rfl))
    (He.exm_ok (c.fact 230 (f := .exm "NoOutput" "NoSuchPlace" false) rfl))
    (He.exm_ok (c.fact 231 (f := .exm "NoOutput" "NoPart" false) rfl))
    (He.exm_ok (c.fact 232 (f := .exm "NoOutput" "NotLedBack" false) rfl))
    (He.exm_ok (c.fact 233 (f := .exm "NoSuchText" "NoOutput" false) rfl))
    (He.exm_ok (c.fact 234 (f := .exm "NoSuchText" "NoSuchText" true) rfl))
    (He.exm_ok (c.fact 235 (f := .exm "NoSuchText" "NoSuchPlace" false) rfl))
    (He.exm_ok (c.fact 236 (f := .exm "NoSuchText" "NoPart" false) rfl))
    (He.exm_ok (c.fact 237 (f := .exm "NoSuchText" "NotLedBack" false) rfl))
    (He.exm_ok (c.fact 238 (f := .exm "NoSuchPlace" "NoOutput" false) rfl))
    (He.exm_ok (c.fact 239 (f := .exm "NoSuchPlace" "NoSuchText" false) rfl))
    (He.exm_ok (c.fact 240 (f := .exm "NoSuchPlace" "NoSuchPlace" true) rfl))
    (He.exm_ok (c.fact 241 (f := .exm "NoSuchPlace" "NoPart" false) rfl))
    (He.exm_ok (c.fact 242 (f := .exm "NoSuchPlace" "NotLedBack" false) rfl))
    (He.exm_ok (c.fact 243 (f := .exm "NoPart" "NoOutput" false) rfl))
    (He.exm_ok (c.fact 244 (f := .exm "NoPart" "NoSuchText" false) rfl))
    (He.exm_ok (c.fact 245 (f := .exm "NoPart" "NoSuchPlace" false) rfl))
    (He.exm_ok (c.fact 246 (f := .exm "NoPart" "NoPart" true) rfl))
    (He.exm_ok (c.fact 247 (f := .exm "NoPart" "NotLedBack" false) rfl))
    (He.exm_ok (c.fact 248 (f := .exm "NotLedBack" "NoOutput" false) rfl))
    (He.exm_ok (c.fact 249 (f := .exm "NotLedBack" "NoSuchText" false) rfl))
    (He.exm_ok (c.fact 250 (f := .exm "NotLedBack" "NoSuchPlace" false) rfl))
    (He.exm_ok (c.fact 251 (f := .exm "NotLedBack" "NoPart" false) rfl))
    (He.exm_ok (c.fact 252 (f := .exm "NotLedBack" "NotLedBack" true) rfl))
    (He.free_ok X G (c.fact 253 (f := .free "len") rfl))
    (He.free_ok X G (c.fact 254 (f := .free "ord") rfl))
    (He.free_ok X G (c.fact 255 (f := .free "list") rfl))
    (He.free_ok X G (c.fact 256 (f := .free "range") rfl))
    (He.free_ok X G (c.fact 257 (f := .free "enumerate") rfl))
    (He.free_ok X G (c.fact 258 (f := .free "all") rfl))
    (He.free_ok X G (c.fact 259 (f := .free "min") rfl))
end Oe
open PySem PySem.W PySem.Calls PyProof.Rows
set_option maxRecDepth 100000 in
set_option maxHeartbeats 0 in
theorem PySem.Challenge.cw_outputedits_s01_answers_holds : PySem.Challenge.rw_outputedits_s01_answers.Holds := by
  w_on
  refine holds_os (r := PySem.Challenge.rw_outputedits_s01_answers) (q := Oe.qv) (loose := Oe.namesAll) (XP := XL Oe.qv []) (YP := Oe.hk.says) (kwd := []) Oe.left Oe.hk.of Oe.hk.keeps (fun s z => xl_of s (Bool.and_eq_true_iff.mp z).1) XL.keeps (by rfl) (by rfl) (by rfl) (fun s z => recFacts_of (Bool.and_eq_true_iff.mp z).2) os_shapes Oe.said Oe.chain_ok Oe.bare_ok ?hw ?hc
  case hw => exact ⟨[.list [.int 2]], by decide +kernel, by decide +kernel⟩
  case hc =>
    intro w s0 s1 mg mb G Y
    obtain ⟨K, KX, c, mi⟩ := Y
    refine L2.walk_specK (r := PySem.Challenge.rw_outputedits_s01_answers) (k := 14) (CX := L2.CX0) (ps := ["calls"]) (sp := Oe.spA) (K := fun _ => K) (YP := fun _ h => K.In h) Oe.said rfl rfl ⟨rfl, by decide, by decide⟩ (fun w h Y => Y) (fun w mg fa h Y KX G hmg => Oe.facts KX G hmg c mi) ?S (fun _ _ _ _ z => z) w s0 s1 mg mb G KX
    intro K H xs a hO hwi hask hx
    cases hx with
    | cons h1 h2 =>
      cases h2
      cases h1 with
      | lst hs ha =>
        have e := L2.ints_dw a.1 _ ha
        subst e
        have q : ((Codec.inLen 0 17000 a.1 && a.1.all (Codec.inInt (-1000000000000000000) 1000000000000000000)) && true) = true := hwi
        rw [Bool.and_eq_true, Bool.and_eq_true] at q
        have n : a.1.length ≤ 17000 := (Codec.inNat_iff.mp q.1.1).2
        exact ⟨rfl, _, a.1, rfl, hs, Nat.le_trans n (by decide), hask, fun H' p hp => .lst (L2.SqL.of hp) (L2.dw_ints _)⟩
