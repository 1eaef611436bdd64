import PyProof.Rows.All
import Wide.All
import OpenK.AllK
import Wide.FinOn
import HandS.ForMost
import HandS.HeadEnd
import KE.KIntText
import HandS.Wide
import HandS.IsInst
import HandS.TupAny
import HandS.Codes
import HandS.Defaults
import HandS.HeadHook2
import HandS.Head2
import HandS.DictComp
import KE.KDictPairs
import PyProof.ListStr
import HandS.SortInts
import HandS.Zip
import HandS.TupMul
import HandS.NestedK
import HandS.Conv
import HandS.Deep
import HandS.Records
import HandS.NoneIn
import HandS.TupLen
import KE.SortData
import HandS.More
import HandS.Style
import HandS.Rev
import KE.DataCmp
import KE.GoesEnum
import HandS.SetKeys
import KE.KDictCopyH
import HandS.Star
import HandS.Walk
import KE.KDictWalk
import HandS.MakeKwOnly
import KE.DataMinMax
import PyProof.TupleOfSeq
import PyProof.Transfer
import PyProof.P3In
import HandS.SetFor
import KE.KEqDict
import PyProof.DictFindH
import PyProof.EqKinds
import KE.KTupSum
import HandS.TupSets
import KE.KDictZip
import HandS.Zip0
import HandS.RevTup
import HandS.DictTup
import HandS.Sort
import HandS.ExcInit
import KE.KSuper
import KE.KExcSuper
import HandS.ExcIs
import HandS.ExcValue
import HandS.ExcField
import KE.KExcIs
import KE.KIsAll
import HandS.ExcOwn
import HandS.HeadHook3
import PySem.Challenge.RW_woundwalks_k04_whole_wound_rows_by_all_r
set_option Elab.async false
set_option linter.all false
set_option maxRecDepth 100000
set_option maxHeartbeats 0
namespace Gk
open PySem PySem.Spec PyProof.Rows L2
structure FnG (P : Program) (w : World) (K : PySem.W.Frag) (mg : Str → Option Value) (base : Heap)
    (CX : CXT) (k : Nat) (f : Addr) (fd : FuncData) (ps : List Str) (sp : Sp) : Prop where
  ar : ∀ vs H Q E, sp vs H Q E → vs.length = ps.length
  go : ∀ (A : Around) (outer : List Env) (s : Shared) (H : Hp) (args : Args) (us : List Value)
    (vs : List V) (Q : VK) (E : XK), A.guards = some [] → Room k A →
    Env0 P w K mg base A outer s H → BindsTo s fd args (ps.zip us) → Vals vs us → sp vs H Q E →
    codeAny (model P w) A (.call (.ref f) args) (CR CX outer P w H s Q E) s
section
variable {P : Program} {w : World} {K : PySem.W.Frag} {mg : Str → Option Value} {base : Heap} {CX : CXT}
theorem FnG.of {k : Nat} {f : Addr} {fd : FuncData} {ps : List Str} {sp : Sp}
    (F : FnOk P w K mg base CX k f fd ps sp) : FnG P w K mg base CX k f fd ps sp :=
  ⟨F.len, fun A outer s H args us vs Q E _ hr => F.run A outer s H args us vs Q E hr⟩
theorem fnG_body {k : Nat} {f : Addr} {name qual : Str} {params : Arguments} {body : List Stmt}
    {scope : Scope} {dV kV doc pm cdv ct oc : Value} {an od : Option Addr}
    {osl : Array (Option Value)} {N ps : List Str} {sp : Sp}
    (lk : K.lookup f = some ⟨oc, od, .func (PySem.W.fnOf name qual params body scope dV kV doc pm an cdv ct), osl⟩)
    (hcd : PySem.W.codeIn K cdv qual = true) (S : FnScope N ps scope)
    (ar : ∀ vs H Q E, sp vs H Q E → vs.length = ps.length)
    (hb : ∀ (A : Around) (outer : List Env) (s : Shared) (H : Hp) (vs : List V) (Q : VK) (E : XK),
      A.guards = some [] → Room k (A.deeper (envOfC qual scope s.heap.objs.size f cdv)) → sp vs H Q E →
      ∃ t, PSs (cxOf CX P w K mg base N qual scope f cdv A outer s H E) body t ∧
        t { nx := fun _ H' => Q .non H', rt := Q } (start N vs) H) :
    FnG P w K mg base CX (k + 1) f (PySem.W.fnOf name qual params body scope dV kV doc pm an cdv ct) ps sp := by
  constructor
  · exact ar
  intro A outer s H args us vs Q E hg room env bnd rel wish
  have kin : K.In s.heap := env.mod.kin.keeps (fun b o q => (env.bs b o q).1)
  have nol : s.heap.NoLimit := env.mod.nolimit.keeps (fun b o q => (env.bs b o q).1)
  apply codeAny_call_function room.depth (kin _ _ lk) rfl S.co S.gen rfl (PySem.W.codeRec_of kin hcd)
  apply bnd
  apply wpAny_newFunctionEnv_cells S.kind
  · rintro ⟨n, v⟩ hy
    cases S.par n (List.of_mem_zip hy).1 with
    | inl q => exact Or.inl q
    | inr q => exact Or.inr ⟨q, PySem.W.cellsFrom_some _ _ _ (Or.inl q)⟩
  rintro _ rfl s1 inn
  refine And.intro (nol.keeps inn.toInCall.keep) (codeAny_func ?_)
  obtain ⟨t, run, want⟩ := hb A outer s H vs Q E hg (room.deeper _) wish
  have inv := inv_start (CX := CX) (E := E) S room.hd env (ar _ _ _ _ wish) rel inn
  apply wpAny_mono (run.run [] s1 _ H _ inv want)
  · intro fl s' out
    cases fl with
    | ret u => obtain ⟨v, _, H', J, rv, q⟩ := out; exact ⟨v, H', J.os, J.bare, J.base, J.hok, rv, q⟩
    | next => obtain ⟨_, H', J, q⟩ := out; exact ⟨V.non, H', J.os, J.bare, J.base, J.hok, rfl, q⟩
    | brk => obtain ⟨_, _, _, q⟩ := out; exact q.elim
    | cont => obtain ⟨_, _, _, q⟩ := out; exact q.elim
  · exact fun _ _ q => q
end
section
variable {X : Cx} {CX : CXT} {k : Nat} {f : Addr} {fd : FuncData} {ps : List Str} {sp : Sp} {E : XK}
theorem runG {pins : List (Addr × Obj)} {σ : L2.St} {H : Hp} {s : Shared} {Q : VK} {us ds : List Value}
    {vs dvs : List V} (F : FnG X.prog X.w X.K X.mg X.base CX k f fd ps sp) (hg : X.A.guards = some [])
    (hr : Room k X.A) (hb : Binds X.K fd ps ds) (hd : Vals dvs ds) (hx : Passes CX X E)
    (I : L2.Inv X pins σ H s) (r : Vals vs us) (h : sp (vs ++ dvs) H Q E) :
    wpAny (model X.prog X.w) X.A (call (.ref f) us) (EP X pins σ Q) X.xe s := by
  have rel := r.append hd
  have hl : (us ++ ds).length = ps.length := rel.length.symm.trans (F.ar _ _ _ _ h)
  apply wpAny_call
  apply codeAny_mono (F.go X.A X.stack s H ⟨us, []⟩ _ _ Q E hg hr I.env0 (hb s us I.kIn hl) rel h)
  intro out s' q
  rcases out with e | fl
  · exact hx pins σ H s e s' I q
  · cases fl <;> first | exact I.after q | exact q.elim
/-- f(e, ..) of such a def -/
theorem pe_callG {x : Str} {p pos : Pos} {e : Expr} {es : List Expr} {t : TA} {ds : List Value} {dvs : List V}
    (F : FnG X.prog X.w X.K X.mg X.base CX k f fd ps sp) (hg : X.A.guards = some []) (hr : Room k X.A)
    (gl : Gl X x) (hm : X.mg x = some (.ref f)) (hk : PySem.W.keepIn X.K (.ref f) = true)
    (hb : Binds X.K fd ps ds) (hd : Vals dvs ds) (hx : Passes CX X E) (ha : PA X (e :: es) t)
    (hdb : (x == ("__debug__" : Str)) = false := by decide)
    (he : starEach (e :: es) X.env = (false, eval e X.env) :: starEach es X.env := by rfl)
    (hpl : (backTo pos (starEach es X.env)).any (·.1) = false := by rfl) :
    PE X (.Call (.Name x p) (e :: es) [] pos) (tCall sp dvs E t) := by
  constructor
  intro pins s σ H Q I h
  apply wpAny_Call_Name_kw
  apply ld_glob I gl hm _ hdb
  apply PySem.W.callWith_K (h₀ := X.base) I.ok.mod.kin hk _ he hpl
  apply thn (ha.run pos pins s σ H _ I h)
  rintro us s1 ⟨vs, H1, I1, r, q⟩
  exact ⟨I1.kIn, runG F hg hr hb hd hx I1 r q⟩
end
theorem lawG {P : Program} {w : World} {K : PySem.W.Frag} {mg mb : Str → Option Value} {CX : CXT} {k : Nat}
    {fa a : Addr} {fd : FuncData} {x : Str} {sp : Sp} {s₁ : Shared} {vs : List Value} {ns : List Int}
    (KX : K.In s₁.heap) (hns : s₁.heap.Ns mainGlobals mg) (hb : s₁.heap.Ns builtinsNs mb)
    (hbb : ∀ x : Str, x ≠ "__name__" → mb x = bootBuiltins x) (hlim : s₁.heap.NoLimit) (hg : s₁.gens = #[])
    (ha : s₁.heap.get? a = some { cls := .type "list", data := .seq vs.toArray }) (hi : IntsAre vs ns)
    (hl : ns.length ≤ sizeLine) (hr : Room k callerA)
    (F : ∀ base : Heap, K.In base → base.Ns mainGlobals mg → FnG P w K mg base CX k fa fd [x] sp)
    (hbind : ∀ (s : Shared) (u : Value), BindsTo s fd ⟨[u], []⟩ [(x, u)])
    (hsp : ∀ H : Hp, Only H → SqL K H a (ns.map V.int) → sp [.ref a] H (fun v _ => v = .bl true) fun _ _ _ => False)
    (hCX : ∀ H e s', CX [] H s₁ (fun _ _ _ => False) e s' → False) :
    codeAny (model P w) callerA (.call (.ref fa) ⟨[.ref a], []⟩) (fun r s' => r = .ok (.ret (.bool true)) ∧
      OldK s₁.heap s'.heap ∧ s'.os = s₁.os ∧ AllBare s'.gens) s₁ := by
  have main : ∀ H : Hp, Only H → SqL K H a (ns.map V.int) → HOk P w H s₁.heap →
      (∀ b u, H b = some u → b = a ∧ K.lookup a = none) →
      codeAny (model P w) callerA (.call (.ref fa) ⟨[.ref a], []⟩) (fun r s' => r = .ok (.ret (.bool true)) ∧
        OldK s₁.heap s'.heap ∧ s'.os = s₁.os ∧ AllBare s'.gens) s₁ := by
    intro H only seq hok here
    have free : ∀ b o, s₁.heap.get? b = some o → (∀ z n, o.data ≠ .seq z n) → H b = none := by
      intro b o e nd
      match q : H b with
      | none => rfl
      | some u =>
        obtain ⟨rfl, _⟩ := here b u q
        cases e.symm.trans ha
        exact (nd _ _ rfl).elim
    have nsK : ∀ {b : Addr} {m : Str → Option Value}, s₁.heap.Ns b m → (hidT s₁.heap H).Ns b m := by
      rintro b m ⟨o, es, ep, e, d, r⟩
      exact ⟨o, es, ep, hidT_get e (free b o e (fun z n z' => by rw [d] at z'; cases z')), d, r⟩
    have kin : K.In (hidT s₁.heap H) := by
      intro b o e
      apply hidT_get (KX b o e)
      match q : H b with
      | none => rfl
      | some u =>
        obtain ⟨rfl, z⟩ := here b u q
        cases z.symm.trans e
    have lim : (hidT s₁.heap H).NoLimit := by
      obtain ⟨mc, h1, h2⟩ := hlim
      exact ⟨mc, nsK h1, h2⟩
    have env : Env0 P w K mg (hidT s₁.heap H) callerA [] s₁ H := {
      frames := rfl
      mod := ⟨kin, nsK hns, ⟨mb, nsK hb, hbb⟩, lim⟩
      bs := fun b o e => of_hidT e
      bsz := Nat.le_of_eq (hidT_size _ _)
      funs := trivial
      frf := fun b z => absurd (show b ∈ ([] : List Addr) from z) List.not_mem_nil
      hok := hok
      bare := .of_eq hg }
    have call := (F _ kin (nsK hns)).go callerA [] s₁ H ⟨[.ref a], []⟩ [.ref a] [.ref a] _ _ rfl hr env
      (hbind s₁ (.ref a)) (.cons rfl .nil) (hsp H only seq)
    apply codeAny_mono call
    intro r s' out
    match r, out with
    | .error e, out => exact (hCX H e s' out).elim
    | .ok .next, out => exact False.elim out
    | .ok .brk, out => exact False.elim out
    | .ok .cont, out => exact False.elim out
    | .ok (.ret u), out =>
      obtain ⟨v, H', os, bare, un, hok', rv, rfl⟩ := out
      cases (show u = Value.bool true from rv)
      refine ⟨rfl, OldK.of_keep ?_, os, bare⟩
      intro b o e
      cases only b with
      | inl n => exact un.keep b o e n (fun z => absurd (show b ∈ ([] : List Addr) from z) List.not_mem_nil) List.not_mem_nil
      | inr n =>
        obtain ⟨ob, xs, z⟩ := n
        have e1 := (hok b _ z).1
        have e2 := (hok' b _ (un.frzs b ob _ z)).1
        rw [e2, ← e1, e]
  match hk : K.lookup a with
  | some o =>
    cases (KX a o hk).symm.trans ha
    apply main (fun _ => none) (fun _ => Or.inl rfl)
    · refine Or.inr ⟨_, vs.toArray, _, hk, rfl, rfl, rfl, ?_, ?_⟩
      · rw [List.size_toArray, hi.length]; exact hl
      · simpa using vals_ints hi
    · intro b u z
      exact absurd (show (none : Option HO) = some u from z) nofun
    · intro b u z
      exact absurd (show (none : Option HO) = some u from z) nofun
  | none =>
    apply main (upd (fun _ => none) a (.frz { cls := .type "list", data := .seq vs.toArray } (.lst (ns.map V.int))))
    · intro b
      by_cases e : b = a
      · subst e; exact Or.inr ⟨_, _, upd_same⟩
      · exact Or.inl (upd_ne e)
    · exact Or.inl (Or.inr ⟨_, upd_same⟩)
    · intro b u z
      by_cases e : b = a
      · subst e
        cases upd_same.symm.trans z
        refine ⟨ha, ?_, vs, _, vals_ints hi, ha⟩
        rw [List.length_map]; exact hl
      · cases (upd_ne (H := fun _ => none) e).symm.trans z
    · intro b u z
      by_cases e : b = a
      · exact ⟨e, hk⟩
      · cases (upd_ne (H := fun _ => none) e).symm.trans z
theorem walkG {l : PySem.W.OpenLaw} {n k : Nat} {q : Program} {loose : List Str}
    {XP : (Str → Option Value) → Heap → Prop} {YP : World → Heap → Prop} {d : DefRec} {CX : CXT} {x : Str}
    (hn : l.most = some n) (hn2 : n ≤ sizeLine) (hdf : d.params.defaults = []) (hr : Room k callerA)
    (F : ∀ (w : World) (mg : Str → Option Value) (fa : Addr) (h : Heap), YP w h → h.Ns mainGlobals mg →
      mg d.name = some (.ref fa) →
      ∃ (K : PySem.W.Frag) (fd : FuncData) (sp : Sp), K.In h ∧
        (∀ (s : Shared) (u : Value), BindsTo s fd ⟨[u], []⟩ [(x, u)]) ∧
        (∀ (H : Hp) (a : Addr) (ns : List Int), ns.length ≤ n → Only H → SqL K H a (ns.map V.int) →
          sp [.ref a] H (fun v _ => v = .bl true) fun _ _ _ => False) ∧
        ∀ base : Heap, K.In base → base.Ns mainGlobals mg → FnG l.prog w K mg base CX k fa fd [x] sp)
    (hCX : ∀ (H : Hp) (s : Shared) (e : Value) (s' : Shared), CX [] H s (fun _ _ _ => False) e s' → False) :
    PySem.W.WalkO q loose XP YP l.row.toRowW d [] (fun f vs => PySem.call f vs) := by
  apply Att.attach_call hn hdf
  intro w s₀ s₁ mg mb fa o pm cd doc a vs ns G Y _ _ _ hmg hobj hints hlen hgens
  obtain ⟨K, fd, sp, KX, hb, hsp, hF⟩ := F w mg fa _ Y G.T.g hmg
  exact lawG KX G.T.g G.T.b G.T.builtins G.T.nolimit hgens hobj hints (Nat.le_trans hlen hn2) hr hF hb
    (fun H hO hS => hsp H a ns hlen hO hS) (fun H e s' => hCX H s₁ e s')
end Gk
namespace Gk
open PySem PySem.Spec PyProof.Rows
open PySem.NumText PySem.W
/-- '1' and nine hundred noughts -/
def bigC : List Nat := 49 :: List.replicate 900 48
def bigS : PySem.Str := ⟨bigC.toArray⟩
theorem noughts : ∀ (n : Nat) (p : Array Nat),
    (List.replicate n 48).foldlM (step 10) (p, true) = some ((p.toList ++ List.replicate n 0).toArray, true)
  | 0, p => by simp
  | n + 1, p => by
    have e : step 10 (p, true) 48 = some (p.push 0, true) := rfl
    rw [List.replicate_succ, List.foldlM_cons, e]
    show (List.replicate n 48).foldlM (step 10) (p.push 0, true) = _
    rw [noughts n (p.push 0), List.replicate_succ]
    simp
theorem big_rev : bigC.reverse = List.replicate 900 48 ++ [49] := by
  unfold bigC
  rw [List.reverse_cons, List.reverse_replicate]
theorem big_sign : sign (bigC.dropWhile blank) = (false, bigC) := rfl
theorem big_core : core bigC = bigC := by
  unfold core
  rw [big_sign]
  show (List.dropWhile blank bigC.reverse).reverse = bigC
  have e : List.dropWhile blank bigC.reverse = bigC.reverse := by
    rw [big_rev, show 900 = 899 + 1 from rfl, List.replicate_succ, List.cons_append]
    rfl
  rw [e, List.reverse_reverse]
theorem big_neg : (sign (bigC.dropWhile blank)).1 = false := by rw [big_sign]
theorem ascii : ∀ n : Nat, (List.replicate n 48).all (· < 128) = true
  | 0 => rfl
  | n + 1 => by rw [List.replicate_succ, List.all_cons, ascii n]; rfl
theorem big_text : numTextOf bigS = bigC := by
  have h : bigS.cps.all (· < 128) = true := by
    unfold bigS bigC
    rw [← Array.all_toList]
    show (49 :: List.replicate 900 48).all _ = true
    rw [List.all_cons, ascii 900]
    rfl
  exact if_pos h
theorem all_on : ∀ n : Nat, (List.replicate n 48).takeWhile (· != 0) = List.replicate n 48
  | 0 => rfl
  | n + 1 => by
    rw [List.replicate_succ, List.takeWhile_cons]
    show 48 :: List.takeWhile _ (List.replicate n 48) = _
    rw [all_on n]
theorem big_seen : numSeenOf bigS = bigC := by
  show (numTextOf bigS).takeWhile (· != 0) = bigC
  rw [big_text]
  unfold bigC
  rw [List.takeWhile_cons]
  show 49 :: List.takeWhile _ (List.replicate 900 48) = _
  rw [all_on]
theorem big_len : bigC.length = 901 := by unfold bigC; rw [List.length_cons, List.length_replicate]
theorem digits_n (n : Nat) : digits? 10 (49 :: List.replicate n 48) = some ((1 :: List.replicate n 0).toArray) := by
  unfold digits?
  have e : step 10 (#[], false) 49 = some (#[1], true) := rfl
  rw [List.foldlM_cons, e]
  have e2 : (some (#[1], true) >>= fun s' => List.foldlM (step 10) s' (List.replicate n 48)) = List.foldlM (step 10) (#[1], true) (List.replicate n 48) := rfl
  rw [e2, noughts]
  rfl
theorem big_digits : digits? 10 bigC = some ((1 :: List.replicate 900 0).toArray) := digits_n 900
theorem grows : ∀ (n : Nat) (a : Nat), 0 < a → 0 < (List.replicate n 0).foldl (fun acc d => acc * 10 + d) a
  | 0, a, h => h
  | n + 1, a, h => by
    rw [List.replicate_succ, List.foldl_cons]
    exact grows n _ (by omega)
theorem big_worth : ∃ n, 0 < n ∧ PySem.intText? bigS = some n := by
  refine ⟨worth false ((1 :: List.replicate 900 0).toArray), ?_, ?_⟩
  · unfold worth
    have h := grows 900 (0 * 10 + 1) (by decide)
    simp only [List.foldl_toArray, List.foldl_cons]
    simp only [Bool.false_eq_true, if_false]
    exact Int.ofNat_lt.mpr h
  · unfold PySem.intText?
    rw [big_seen, big_text, big_core, big_digits, big_neg]
    rw [if_pos (by rw [big_len]; decide)]
    show (if (1 :: List.replicate 900 0).toArray.size ≤ 4300 then _ else _) = _
    rw [if_pos (by rw [List.size_toArray, List.length_cons, List.length_replicate]; decide)]
theorem big_long : ¬ ((numSeenOf bigS).length ≤ 640) := by rw [big_seen, big_len]; decide
theorem digits_wp {M : Model} {A : Around} {E : Value → Shared → Prop} {s : Shared} {Q : Nat → Shared → Prop}
    (hn : s.heap.NoDigits) (h : Q 4300 s) : wpAny M A Builtin.intMaxStrDigits Q E s := by
  obtain ⟨mc, hns, hnone⟩ := hn
  unfold Builtin.intMaxStrDigits
  apply wpAny_bind (wpAny_nsGet hns _)
  rw [hnone]
  exact wpAny_pure h
theorem big_from {M : Model} {A : Around} {E : Value → Shared → Prop} {s : Shared} {Q : Value → Shared → Prop} {v : Value} {text : List Nat} {n : Int}
    (hl : ¬ ((text.takeWhile (· != 0)).length ≤ 640))
    (hr : (int_private% "readNumeral") 4300 10 (text.takeWhile (· != 0)) = (int_private% "Numeral.value") n)
    (ha : ((text.takeWhile (· != 0)).length == text.length) = true)
    (hn : s.heap.NoDigits) (h : Q (.int n s.toks) { s with toks := s.toks + 1 }) :
    wpAny M A ((int_private% "intFromText") v text 10) Q E s := by
  obtain ⟨hp, g, d, tk, os⟩ := s
  repeat (any_goals (first
    | assumption
    | (with_reducible refine wpAny_ite_false (decide_eq_false hl) ?_)
    | (with_reducible refine wpAny_ite_true (decide_eq_true ha) ?_)
    | (with_reducible refine digits_wp hn ?_)
    | wp_step))
  all_goals (try rw [hr])
  all_goals (try dsimp only)
  repeat (any_goals (first
    | assumption
    | (with_reducible refine wpAny_ite_true (decide_eq_true ha) ?_)
    | wp_step))
set_option maxHeartbeats 4000000 in
theorem big_new {u : Tok} {n : Int} (hn : PySem.intText? bigS = some n) :
    Meets (Builtin.«int.__new__» ⟨[.type "int", .str bigS u], []⟩)
      (fun _ R s => s.heap.NoDigits ∧ R (.ok (.ret (.int n s.toks))) { s with toks := s.toks + 1 }) := by
  intro prog w A R s h
  obtain ⟨hd, h⟩ := h
  have hk : (int_private% "readNumeral") 4300 10 (numSeenOf bigS) = (int_private% "Numeral.value") n ∧ ((numSeenOf bigS).length == (numTextOf bigS).length) = true := by
    rcases read4300 bigS (by show bigC.toArray.size ≤ _; rw [List.size_toArray, big_len, sizeLine_eq]; decide) with ⟨m, h1, h2, h3⟩ | ⟨h1, _⟩
    · rw [hn] at h1
      injection h1 with h1
      subst h1
      exact ⟨h3, h2⟩
    · rw [hn] at h1
      cases h1
  have hl := big_long
  have f1 := F.conv_sub_int
  have f2 := F.madeHere_int
  have f3 := KIN.str_int
  have f4 := KIN.str_idx
  have f5 := KIN.str_trunc
  have f6 : typeOf (.str bigS u) = pure (.type "str") := rfl
  generalize bigS = x at *
  obtain ⟨hp, g, d, tk, os⟩ := s
  clear hn
  have hk2 := KIN.Hid.mk hk
  have hl2 := KIN.Hid.mk hl
  clear hk hl
  repeat (any_goals (first
    | assumption
    | ((with_reducible show wpAny _ _ ((int_private% "intFromText") _ _ _) _ _ _); refine big_from hl2.out hk2.out.1 hk2.out.2 hd ?_)
    | wp_step))
theorem call_big {prog : Program} {w : World} {A : Around} {E : Value → Shared → Prop} {s : Shared} {Q : Value → Shared → Prop} {t : Tok} {n : Int}
    (hn : PySem.intText? bigS = some n) (hd : s.heap.NoDigits) (h : Q (.int n s.toks) { s with toks := s.toks + 1 }) :
    wpAny (model prog w) A (call (.type "int") [.str bigS t]) Q E s :=
  call_int_1 (big_new hn) ⟨hd, typeIs_int _ _ _, h⟩
end Gk
namespace Gk
open PySem PySem.Spec PyProof.Rows L2
mutual
inductive Dx (p : List Addr) (H : Hp) : V → PyData → Prop
  | non : Dx p H .non .none
  | bl (b : Bool) : Dx p H (.bl b) (.bool b)
  | int (i : Int) : Dx p H (.int i) (.int i)
  | str (x : Str) : x.length ≤ 100000 → Dx p H (.str x) (.str x)
  | lst {a : Addr} {xs : List V} {ds : List PyData} : H a = some (.lst xs) → a ∉ p → xs.length ≤ 100000 → DxA p H xs ds → Dx p H (.ref a) (.list ds)
  | tup {a : Addr} {xs : List V} {ds : List PyData} : H a = some (.tup xs) → xs.length ≤ 100000 → DxA p H xs ds → Dx p H (.ref a) (.tuple ds)
  | dic0 {a : Addr} : H a = some (.dK []) → Dx p H (.ref a) (.dict [])
  | dic1 {a : Addr} {x : Str} {i : Int} : H a = some (.dK [(Sum.inr x, .int i)]) → Dx p H (.ref a) (.dict [(.str x, .int i)])
inductive DxA (p : List Addr) (H : Hp) : List V → List PyData → Prop
  | nil : DxA p H [] []
  | cons {v : V} {vs : List V} {d : PyData} {ds : List PyData} : Dx p H v d → DxA p H vs ds → DxA p H (v :: vs) (d :: ds)
end
/-- all that stood elsewhere than at p is as it was -/
def Keep (p : List Addr) (H H' : Hp) : Prop := ∀ b o, b ∉ p → H b = some o → H' b = some o
theorem Keep.refl (p : List Addr) (H : Hp) : Keep p H H := fun _ _ _ h => h
theorem Keep.trans {p : List Addr} {H H1 H2 : Hp} (a : Keep p H H1) (b : Keep p H1 H2) : Keep p H H2 := fun c o n h => b c o n (a c o n h)
theorem Keep.of {p : List Addr} {H H' : Hp} (s : Same H H') : Keep p H H' := fun b o _ h => s b o h
theorem Keep.free {p : List Addr} {H H' : Hp} (k : Keep p H H') {b : Addr} (n : b ∉ p) (h : H' b = none) : H b = none := by
  match q : H b with
  | none => rfl
  | some o => rw [k b o n q] at h; cases h
theorem same_new {H : Hp} {p : Addr} {o : HO} (h : H p = none) : Same H (upd H p o) := fun b x e => by
  rw [upd_ne (ne_of_none e h)]
  exact e
theorem Keep.sub {H H' : Hp} {N M : List Addr} (k : Keep N H H') (h : ∀ a ∈ N, a ∈ M) : Keep M H H' := fun b x n e => k b x (fun z => n (h b z)) e
/-- at each of these stands a list -/
def Lists (p : List Addr) (H : Hp) : Prop := ∀ a ∈ p, ∃ xs, H a = some (.lst xs)
theorem Lists.not {p : List Addr} {H : Hp} {a : Addr} {o : HO} (l : Lists p H) (h : H a = some o) (n : ∀ xs, o ≠ .lst xs) : a ∉ p := fun m => by
  obtain ⟨xs, e⟩ := l a m
  rw [h] at e
  exact n xs (Option.some.inj e)
mutual
theorem Dx.keep {p : List Addr} {H H' : Hp} (hp : Lists p H) (k : Keep p H H') : ∀ {v : V} {d : PyData}, Dx p H v d → Dx p H' v d
  | _, _, .non => .non
  | _, _, .bl b => .bl b
  | _, _, .int i => .int i
  | _, _, .str x h => .str x h
  | _, _, .lst h n l a => .lst (k _ _ n h) n l (DxA.keep hp k a)
  | _, _, .tup h l a => .tup (k _ _ (hp.not h (fun _ => nofun)) h) l (DxA.keep hp k a)
  | _, _, .dic0 h => .dic0 (k _ _ (hp.not h (fun _ => nofun)) h)
  | _, _, .dic1 h => .dic1 (k _ _ (hp.not h (fun _ => nofun)) h)
theorem DxA.keep {p : List Addr} {H H' : Hp} (hp : Lists p H) (k : Keep p H H') : ∀ {vs : List V} {ds : List PyData}, DxA p H vs ds → DxA p H' vs ds
  | _, _, .nil => .nil
  | _, _, .cons h t => .cons (Dx.keep hp k h) (DxA.keep hp k t)
end
mutual
theorem Dx.same {p : List Addr} {H H' : Hp} (k : Same H H') : ∀ {v : V} {d : PyData}, Dx p H v d → Dx p H' v d
  | _, _, .non => .non
  | _, _, .bl b => .bl b
  | _, _, .int i => .int i
  | _, _, .str x h => .str x h
  | _, _, .lst h n l a => .lst (k _ _ h) n l (DxA.same k a)
  | _, _, .tup h l a => .tup (k _ _ h) l (DxA.same k a)
  | _, _, .dic0 h => .dic0 (k _ _ h)
  | _, _, .dic1 h => .dic1 (k _ _ h)
theorem DxA.same {p : List Addr} {H H' : Hp} (k : Same H H') : ∀ {vs : List V} {ds : List PyData}, DxA p H vs ds → DxA p H' vs ds
  | _, _, .nil => .nil
  | _, _, .cons h t => .cons (Dx.same k h) (DxA.same k t)
end
theorem DxA.length {p : List Addr} {H : Hp} : ∀ {vs : List V} {ds : List PyData}, DxA p H vs ds → vs.length = ds.length
  | _, _, .nil => rfl
  | _, _, .cons _ t => congrArg Nat.succ (DxA.length t)
theorem DxA.append {p : List Addr} {H : Hp} : ∀ {vs ws : List V} {ds es : List PyData}, DxA p H vs ds → DxA p H ws es → DxA p H (vs ++ ws) (ds ++ es)
  | _, _, _, _, .nil, s => s
  | _, _, _, _, .cons h t, s => .cons h (DxA.append t s)
theorem DxA.take {p : List Addr} {H : Hp} : ∀ {vs : List V} {ds : List PyData} (n : Nat), DxA p H vs ds → DxA p H (vs.take n) (ds.take n)
  | _, _, 0, _ => .nil
  | _, _, _ + 1, .nil => .nil
  | _, _, n + 1, .cons h t => .cons h (DxA.take n t)
theorem DxA.drop {p : List Addr} {H : Hp} : ∀ {vs : List V} {ds : List PyData} (n : Nat), DxA p H vs ds → DxA p H (vs.drop n) (ds.drop n)
  | _, _, 0, s => s
  | _, _, _ + 1, .nil => .nil
  | _, _, n + 1, .cons _ t => DxA.drop n t
theorem DxA.get {p : List Addr} {H : Hp} : ∀ {vs : List V} {ds : List PyData} {i : Nat} {v : V}, DxA p H vs ds → vs[i]? = some v → ∃ d, ds[i]? = some d ∧ Dx p H v d
  | _, _, _, _, .nil, e => by simp at e
  | _, _, 0, _, .cons h _, e => by simp at e; subst e; exact ⟨_, rfl, h⟩
  | _, _, i + 1, v, .cons _ t, e => by
    obtain ⟨d, e1, e2⟩ := DxA.get (i := i) (v := v) t (by simpa using e)
    exact ⟨d, by simpa using e1, e2⟩
mutual
theorem Dx.new {p : List Addr} {H H' : Hp} {L : Addr} (hL : H L = none) (k : Same H H') : ∀ {v : V} {d : PyData}, Dx p H v d → Dx (L :: p) H' v d
  | _, _, .non => .non
  | _, _, .bl b => .bl b
  | _, _, .int i => .int i
  | _, _, .str x h => .str x h
  | _, _, .lst h n l a => .lst (k _ _ h) (fun z => (List.mem_cons.mp z).elim (fun e => by rw [e, hL] at h; cases h) n) l (DxA.new hL k a)
  | _, _, .tup h l a => .tup (k _ _ h) l (DxA.new hL k a)
  | _, _, .dic0 h => .dic0 (k _ _ h)
  | _, _, .dic1 h => .dic1 (k _ _ h)
theorem DxA.new {p : List Addr} {H H' : Hp} {L : Addr} (hL : H L = none) (k : Same H H') : ∀ {vs : List V} {ds : List PyData}, DxA p H vs ds → DxA (L :: p) H' vs ds
  | _, _, .nil => .nil
  | _, _, .cons h t => .cons (Dx.new hL k h) (DxA.new hL k t)
end
mutual
def listless : PyData → Bool
  | .list _ => false
  | .tuple xs => listlessA xs
  | _ => true
def listlessA : List PyData → Bool
  | [] => true
  | x :: xs => listless x && listlessA xs
end
section
variable {X : Cx} {pins : List (Addr × Obj)} {σ : L2.St} {H : Hp} {s : Shared}
mutual
theorem Dx.reads (I : L2.Inv X pins σ H s) {p : List Addr} : ∀ (d : PyData) (v : V) (u : Value), Dx p H v d → RelV v u → ∃ as, Reads s.heap u d as ∧ (listless d = true → sysModules ∉ as)
  | .none, _, _, h, r => by
    cases h; cases r
    exact ⟨_, Reads.none, fun _ => List.not_mem_nil⟩
  | .bool b, _, _, h, r => by
    cases h; cases r
    exact ⟨_, Reads.bool b, fun _ => List.not_mem_nil⟩
  | .int i, _, _, h, r => by
    cases h
    obtain ⟨t, rfl⟩ := r
    exact ⟨_, Reads.int i t, fun _ => List.not_mem_nil⟩
  | .str x, _, _, h, r => by
    cases h
    obtain ⟨t, rfl⟩ := r
    exact ⟨_, Reads.str x t, fun _ => List.not_mem_nil⟩
  | .list ds, _, _, h, r => by
    cases h with
    | lst hs _ _ ha =>
      cases r
      obtain ⟨_, its, n, rv, e⟩ := I.hok _ _ hs
      obtain ⟨as, hr, _⟩ := DxA.readsA I ds _ its ha rv
      exact ⟨_, Reads.list e rfl rfl (by simpa using hr), fun z => by cases z⟩
  | .tuple ds, _, _, h, r => by
    cases h with
    | tup hs _ ha =>
      cases r
      obtain ⟨_, its, rv, o, ho, hc, n, hd⟩ := I.hok _ _ hs
      obtain ⟨as, hr, hl⟩ := DxA.readsA I ds _ its ha rv
      exact ⟨_, Reads.tuple ho hc hd (by simpa using hr), fun z => hl z⟩
  | .dict kvs, _, _, h, r => by
    cases h with
    | dic0 hs =>
      cases r
      obtain ⟨_, hy, vs, rv, o, es, ep, ho, hx, hd, _, pr, _⟩ := I.hok _ _ hs
      cases rv
      have e0 : es.toList = [] := by
        generalize es.toList = l at pr
        cases pr
        rfl
      refine ⟨_, Reads.dict (as := []) (bs := []) ho hx.1 hd (by rw [e0]; exact .nil) (by rw [e0]; exact .nil), fun _ z => ?_⟩
      rcases List.mem_cons.mp z with q | q
      · rw [← q] at hy; simp at hy
      · exact List.not_mem_nil q
    | dic1 hs =>
      cases r
      obtain ⟨_, hy, vs, rv, o, es, ep, ho, hx, hd, _, pr, _⟩ := I.hok _ _ hs
      match vs, rv with
      | [(ke, ve)], .cons r1 .nil =>
        have h1 : Sum.inr _ = ke := r1.1
        obtain ⟨t, h2⟩ : ∃ t, ve = Value.int _ t := r1.2
        subst h1
        subst h2
        generalize hl : es.toList = l at pr
        cases pr with
        | cons k1 k2 k3 =>
          cases k3
          rename_i en
          obtain ⟨t2, e2⟩ := Value.isStrOf_shape (show Value.isStrOf _ en.key = true from k1)
          refine ⟨_, Reads.dict (as := []) (bs := []) ho hx.1 hd (by rw [hl]; exact .cons (as := []) (by dsimp only; rw [e2]; exact .str _ _) .nil) (by rw [hl]; exact .cons (as := []) (by dsimp only; rw [k2]; exact .int _ _) .nil), fun _ z => ?_⟩
          rcases List.mem_cons.mp z with q | q
          · rw [← q] at hy; simp at hy
          · exact List.not_mem_nil q
termination_by d => sizeOf d
theorem DxA.readsA (I : L2.Inv X pins σ H s) {p : List Addr} : ∀ (ds : List PyData) (vs : List V) (us : List Value), DxA p H vs ds → Vals vs us → ∃ as, ReadsAll s.heap us ds as ∧ (listlessA ds = true → sysModules ∉ as)
  | [], _, _, h, r => by
    cases h; cases r
    exact ⟨_, ReadsAll.nil, fun _ => List.not_mem_nil⟩
  | d :: ds, _, _, h, r => by
    cases h with
    | cons h1 h2 =>
      cases r with
      | cons r1 r2 =>
        obtain ⟨as, q1, l1⟩ := Dx.reads I d _ _ h1 r1
        obtain ⟨bs, q2, l2⟩ := DxA.readsA I ds _ _ h2 r2
        refine ⟨_, ReadsAll.cons q1 q2, fun z => ?_⟩
        have z' : (listless d && listlessA ds) = true := by simpa [listlessA] using z
        rw [Bool.and_eq_true] at z'
        intro hm
        rcases List.mem_append.mp hm with q | q
        · exact l1 z'.1 q
        · exact l2 z'.2 q
termination_by ds => sizeOf ds
end
end
theorem textFrom_le : ∀ (ts : List Str) (k : Nat) (acc : Str), (textFrom k acc ts).length ≤ acc.length + piled ts
  | [], _, acc => Nat.le_add_right _ _
  | t :: r, k, acc => by
    have ih := textFrom_le r (k + 1) (acc ++ (if k > 0 then ", " else "" : String) ++ t)
    have e : (acc ++ (if k > 0 then ", " else "" : String) ++ t).length ≤ acc.length + 2 + t.length := by
      rw [strLen_append, strLen_append]
      have z : (Str.ofString (if k > 0 then ", " else "" : String)).length ≤ 2 := by split <;> decide
      omega
    rw [piled_cons]
    show (textFrom (k + 1) _ r).length ≤ _
    omega
theorem listText_le (ts : List Str) : (listText ts).length ≤ piled ts + 2 := by
  have h := textFrom_le ts 0 "["
  unfold listText
  rw [strLen_append]
  have e1 : (Str.ofString "]").length = 1 := by decide
  have e2 : (Str.ofString "[").length = 1 := by decide
  omega
theorem join_le (ts : List Str) : (Str.join ", " ts).length ≤ piled ts := by
  match ts with
  | [] => exact Nat.zero_le _
  | t :: r =>
    have h := join_length_add (t :: r) (by simp)
    omega
theorem tupleText_le (ts : List Str) : (tupleText ts).length ≤ piled ts + 3 := by
  have h := join_le ts
  unfold tupleText
  rw [strLen_append, strLen_append]
  have e1 : (Str.ofString "(").length = 1 := by decide
  have e2 : (Str.ofString (if ts.length == 1 then ",)" else ")" : String)).length ≤ 2 := by split <;> decide
  omega
theorem piled_le {n : Nat} : ∀ (ds : List PyData), (∀ d ∈ ds, d.shown.length ≤ n) → piled (PyData.shownAll ds) ≤ ds.length * (n + 2)
  | [], _ => by simp [PyData.shownAll, piled_nil]
  | d :: ds, h => by
    have ih := piled_le ds fun e he => h e (List.mem_cons_of_mem _ he)
    have h1 := h d (List.mem_cons_self ..)
    simp only [PyData.shownAll]
    rw [piled_cons, List.length_cons, Nat.succ_mul]
    omega
theorem shown_list_le {n : Nat} {ds : List PyData} (h : ∀ d ∈ ds, d.shown.length ≤ n) : (PyData.list ds).shown.length ≤ ds.length * (n + 2) + 2 := by
  have h1 := piled_le ds h
  have h2 := listText_le (PyData.shownAll ds)
  simp only [PyData.shown]
  omega
theorem shown_tuple_le {n : Nat} {ds : List PyData} (h : ∀ d ∈ ds, d.shown.length ≤ n) : (PyData.tuple ds).shown.length ≤ ds.length * (n + 2) + 3 := by
  have h1 := piled_le ds h
  have h2 := tupleText_le (PyData.shownAll ds)
  simp only [PyData.shown]
  omega
/-- what can be shown -/
structure Shows (d : PyData) : Prop where
  ok : d.showable = true
  deep : d.depth ≤ 30
  size : d.shown.length ≤ 16000000
  clean : d.hasDict = false ∨ listless d = true
theorem big_line : (16000000 : Nat) ≤ sizeLine := by rw [sizeLine_eq]; decide
section
variable {X : Cx}
def rRepr (p : List Addr) : List V → Hp → VK → Prop := fun xs H Q => ∃ v d, xs = [v] ∧ Dx p H v d ∧ Shows d ∧ Q (.str d.shown) H
theorem call_reprD {k : Nat} (p : List Addr) (hg : X.A.guards = some []) (hr : Room k X.A) : CallR X (.builtin "repr") (rRepr p) := by
  intro pins s σ H xs us Q I r h
  obtain ⟨v, d, rfl, hd, hs, q⟩ := h
  obtain ⟨u, rfl, ru⟩ := vals1 r
  have hz : d.shown.length ≤ sizeLine := Nat.le_trans hs.size big_line
  have hu : X.A.units + (d.depth + 1) < cLine := by
    have h1 := hr.un
    have h2 := hs.deep
    omega
  obtain ⟨as, hr, hl⟩ := Dx.reads I d v u hd ru
  have heap : ∀ a, u = .ref a → wpAny (model X.prog X.w) X.A (call (.builtin "repr") [u]) (EP X pins σ Q) X.xe s := by
    rintro a rfl
    refine repr_of_reads' hr hs.ok (fun z => ?_) hg hu (fun _ _ e => e) (fun h' t tk hk => ?_) hz
    · rcases hs.clean with c | c
      · rw [c] at z; cases z
      · exact hl c
    · exact ⟨.str _, H, I.kept (t' := tk) hk, ⟨t, rfl⟩, q⟩
  cases hd with
  | non => cases ru; exact PySem.P.repr_of_none ⟨.str _, H, I.tok _, ⟨_, rfl⟩, q⟩
  | bl b => cases ru; exact PySem.P.repr_of_bool ⟨.str _, H, I.tok _, ⟨_, by simp only [PyData.shown]; split <;> rfl⟩, q⟩
  | int i =>
    obtain ⟨t, rfl⟩ := ru
    exact PySem.P.repr_of_int (by simpa [PyData.showable] using hs.ok) ⟨.str _, H, I.tok _, ⟨_, rfl⟩, q⟩
  | str x _ =>
    obtain ⟨t, rfl⟩ := ru
    exact PySem.P.repr_of_str ⟨.str _, H, I.tok _, ⟨_, rfl⟩, q⟩ hz
  | lst _ _ _ _ => exact heap _ ru
  | tup _ _ _ => exact heap _ ru
  | dic0 _ => exact heap _ ru
  | dic1 _ => exact heap _ ru
def repS (z : Str) (n : Nat) : Str := ⟨(List.replicate n z.cps.toList).flatten.toArray⟩
theorem foldl_cat (z : Array Nat) : ∀ (n : Nat) (acc : Array Nat), (List.replicate n z).foldl (· ++ ·) acc = (acc.toList ++ (List.replicate n z.toList).flatten).toArray
  | 0, acc => by simp
  | n + 1, acc => by
    rw [List.replicate_succ, List.foldl_cons, foldl_cat z n, List.replicate_succ, List.flatten_cons]
    simp
theorem repS_zero (z : Str) : repS z 0 = Str.empty := rfl
theorem repS_one (z : Str) : repS z 1 = z := by
  unfold repS
  obtain ⟨⟨l⟩⟩ := z
  simp
theorem repS_empty {z : Str} (h : z.length = 0) (n : Nat) : repS z n = z := by
  obtain ⟨⟨l⟩⟩ := z
  have e : l = [] := List.length_eq_zero_iff.mp h
  subst e
  unfold repS
  simp
theorem repS_fold (z : Str) (n : Nat) : (⟨(List.replicate n z.cps).foldl (· ++ ·) #[]⟩ : Str) = repS z n := by
  unfold repS
  rw [foldl_cat]
  simp
theorem repS_length (z : Str) (n : Nat) : (repS z n).length = n * z.length := by
  show (List.replicate n z.cps.toList).flatten.toArray.size = n * z.cps.size
  rw [List.size_toArray, List.length_flatten, List.map_replicate, List.sum_replicate_nat, Array.length_toList]
theorem op_mulStr : OpR X (binaryOp .Mult) (fun x y H Q => ∃ (z : Str) (k : Nat), x = .str z ∧ y = .int (k : Int) ∧ z.length * k ≤ 10000000 ∧ k ≤ 10000000 ∧ z.length ≤ 10000000 ∧ Q (.str (repS z k)) H) := by
  intro pins s σ H x y v u Q I rx ry h
  obtain ⟨z, k, rfl, rfl, hz, hk, hl, q⟩ := h
  obtain ⟨t, rfl⟩ := rx
  obtain ⟨t', rfl⟩ := ry
  refine PySem.P.mul_str ?_ (fun h1 h2 => ?_) (fun h1 h2 => ?_) ?_
  · rw [decide_eq_false (by omega), decide_eq_false (by omega)]; rfl
  · have : (1 : Int) ≤ k := by omega
    have h3 : (10000000 : Int) ≤ (2 ^ 63 - 1) / (k : Int) := by
      apply (Int.le_ediv_iff_mul_le (by omega)).mpr
      omega
    omega
  · show decide (z.length * ((k : Int).toNat) > sizeLine) = false
    have := big_line
    exact decide_eq_false (by rw [show ((k : Int).toNat) = k from rfl]; omega)
  · by_cases h0 : k = 0
    · subst h0
      rw [if_pos (by decide)]
      exact ⟨by decide, .str _, H, I.tok _, ⟨_, rfl⟩, by rw [repS_zero] at q; exact q⟩
    · rw [if_neg (by omega)]
      by_cases h1 : ((k : Int) == 1 || z.length == 0) = true
      · rw [if_pos h1]
        have e : repS z k = z := by
          rw [Bool.or_eq_true, beq_iff_eq, beq_iff_eq] at h1
          rcases h1 with h1 | h1
          · have : k = 1 := by omega
            rw [this, repS_one]
          · exact repS_empty h1 k
        rw [e] at q
        exact ⟨.str _, H, I, ⟨_, rfl⟩, q⟩
      · rw [if_neg h1]
        rw [show ((k : Int).toNat) = k from rfl, repS_fold]
        refine ⟨?_, .str _, H, I.tok _, ⟨_, rfl⟩, q⟩
        have := big_line
        rw [repS_length, Nat.mul_comm]
        omega
theorem noDigits_of {K : PySem.W.Frag} {h : Heap} (X : K.In h) (L : h.NoLimit)
    (e : PySem.W.nsIn K cStatics "sys.int_max_str_digits" = some none) : h.NoDigits := by
  obtain ⟨mc, G, _⟩ := L
  refine ⟨mc, G, ?_⟩
  obtain ⟨o, es, ep, ho, hd, _, hf⟩ := G
  rw [← hf]
  unfold PySem.W.nsIn at e
  cases q : K.lookup cStatics with
  | none => rw [q] at e; cases e
  | some ob =>
    have z := X _ _ q
    rw [ho] at z
    cases z
    obtain ⟨c1, c2, c3, c4⟩ := o
    cases (show c3 = _ from hd)
    rw [q] at e
    dsimp only at e
    unfold nsFind findBy
    rw [← Array.find?_toList]
    cases f : es.toList.find? (fun x => x.key.isStr "sys.int_max_str_digits") with
    | none => rfl
    | some en => rw [f] at e; cases e
variable {CX : CXT} {k n : Nat} {f : Addr} {fd : FuncData} {ps ks : List Str} {sp : Sp} {E : XK} {x : Str} {p pos : Pos}
  {kws : List Keyword} {tk : TA} {g : List Value → List Value → List Value} {gV : List V → List V → List V}
theorem kbn_mk {K : PySem.W.Frag} {y qual : Str} {params : Arguments} {body : List Stmt} {scope : Scope} {kwd : List (Str × V)}
    (F : FunD K y qual params body scope [] kwd f fd)
    (hrel : ∀ {vs zs : List V} {us ws : List Value}, Vals vs us → Vals zs ws → Vals (gV vs zs) (g us ws))
    (h : ∀ (kV doc pm : Value) (an : Option Addr) (cdv ct : Value) (us ws : List Value), us.length = n → ws.length = ks.length →
      bindArgs (PySem.W.fnOf y qual params body scope .none kV doc pm an cdv ct) ⟨us, ks.zip ws⟩ = pure (ps.zip (g us ws))) :
    KBn K fd ps n ks g gV := by
  obtain ⟨oc, od, dV, kV, doc, pm, an, cdv, ct, osl, rfl, lk, hcd, hD, hK⟩ := F.ex
  rcases hD with ⟨_, rfl⟩ | ⟨e, _⟩
  · exact ⟨fun s us ws X l1 l2 => .of_eq (h kV doc pm an cdv ct us ws l1 l2), hrel⟩
  · exact absurd rfl e
end
section
variable {P : Program} {w : World} {K : PySem.W.Frag} {mg : Str → Option Value} {base : Heap}
theorem okGD {CX : CXT} {x qual : Str} {params : Arguments} {body : List Stmt} {scope : Scope} {dvs : List V} {kws : List (Str × V)}
    {f : Addr} {fd : FuncData} {N ps : List Str} {k : Nat} {sp : Sp}
    (F : FunD K x qual params body scope dvs kws f fd) (S : FnScope N ps scope)
    (ar : ∀ vs H Q E, sp vs H Q E → vs.length = ps.length)
    (hb : ∀ (cdv : Value) (A : Around) (outer : List Env) (s : Shared) (H : Hp) (vs : List V) (Q : VK) (E : XK),
      A.guards = some [] → Room k (A.deeper (envOfC qual scope s.heap.objs.size f cdv)) → sp vs H Q E →
      ∃ t, PSs (cxOf CX P w K mg base N qual scope f cdv A outer s H E) body t ∧
        t { nx := fun _ H' => Q .non H', rt := Q } (start N vs) H) :
    FnG P w K mg base CX (k + 1) f fd ps sp := by
  obtain ⟨_, _, _, _, _, _, _, cdv, _, _, rfl, lk, hcd, _, _⟩ := F.ex
  exact fnG_body lk hcd S ar fun A outer s H vs Q E hg hr hsp => hb cdv A outer s H vs Q E hg hr hsp
end
structure Bi (mg : Str → Option Value) : Prop where
  len : mg "len" = none
  range : mg "range" = none
  isinstance : mg "isinstance" = none
  all : mg "all" = none
  any : mg "any" = none
  abs : mg "abs" = none
  int : mg "int" = none
  max : mg "max" = none
  min : mg "min" = none
  repr : mg "repr" = none
  tuple : mg "tuple" = none
  list : mg "list" = none
  str : mg "str" = none
  sorted : mg "sorted" = none
  sum : mg "sum" = none
  zip : mg "zip" = none
  enumerate : mg "enumerate" = none
  reversed : mg "reversed" = none
  divmod : mg "divmod" = none
  dict : mg "dict" = none
  set : mg "set" = none
  bool : mg "bool" = none
  ValueError : mg "ValueError" = none
def biFa : List He.Fa := [.free "len", .free "range", .free "isinstance", .free "all", .free "any", .free "abs", .free "int",
  .free "max", .free "min", .free "repr", .free "tuple", .free "list", .free "str", .free "sorted", .free "sum", .free "zip",
  .free "enumerate", .free "reversed", .free "divmod", .free "dict", .free "set", .free "bool", .free "ValueError"]
theorem bi_of {K : PySem.W.Frag} {h : Heap} {mg : Str → Option Value} (X : K.In h) (G : h.Ns mainGlobals mg)
    (c : ∀ (i : Nat) (f : He.Fa), biFa[i]? = some f → f.ok K = true) : Bi mg :=
  ⟨He.free_ok X G (c 0 _ rfl), He.free_ok X G (c 1 _ rfl), He.free_ok X G (c 2 _ rfl), He.free_ok X G (c 3 _ rfl),
   He.free_ok X G (c 4 _ rfl), He.free_ok X G (c 5 _ rfl), He.free_ok X G (c 6 _ rfl), He.free_ok X G (c 7 _ rfl),
   He.free_ok X G (c 8 _ rfl), He.free_ok X G (c 9 _ rfl), He.free_ok X G (c 10 _ rfl), He.free_ok X G (c 11 _ rfl),
   He.free_ok X G (c 12 _ rfl), He.free_ok X G (c 13 _ rfl), He.free_ok X G (c 14 _ rfl), He.free_ok X G (c 15 _ rfl),
   He.free_ok X G (c 16 _ rfl), He.free_ok X G (c 17 _ rfl), He.free_ok X G (c 18 _ rfl), He.free_ok X G (c 19 _ rfl),
   He.free_ok X G (c 20 _ rfl), He.free_ok X G (c 21 _ rfl), He.free_ok X G (c 22 _ rfl)⟩
/-- a module's constant -/
def Con (mg : Str → Option Value) (x : Str) (v : V) : Prop := ∃ u, mg x = some u ∧ RelV v u
theorem pe_k {X : Cx} {x : Str} {pos : Pos} {v : V} (hg : Gl X x) (h : Con X.mg x v) (hdb : (x == ("__debug__" : Str)) = false := by decide) : PE X (.Name x pos) (tC v) :=
  let ⟨_, h1, h2⟩ := h
  pe_glob hg h1 h2 hdb
def ClG (P : Program) (w : World) (K : PySem.W.Frag) (mg : Str → Option Value) (base : Heap) (k : Nat) (x : Str) (ps : List Str) (sp : Sp) : Prop :=
  ∃ f fd, FnG P w K mg base CX0 k f fd ps sp ∧ mg x = some (.ref f) ∧ PySem.W.keepIn K (.ref f) = true ∧ Binds K fd ps []
section
variable {X : Cx} {k j n : Nat} {x : Str} {ps ks : List Str} {sp : Sp} {p pos : Pos} {e : Expr} {es : List Expr} {t tk : TA} {kws : List Keyword} {gV : List V → List V → List V}
theorem pe_clG (c : ClG X.prog X.w X.K X.mg X.base k x ps sp) (gd : X.A.guards = some []) (hr : Room j X.A) (hk : k ≤ j) (hg : Gl X x) (ha : PA X (e :: es) t)
    (hdb : (x == ("__debug__" : Str)) = false := by decide)
    (he : starEach (e :: es) X.env = (false, eval e X.env) :: starEach es X.env := by rfl)
    (hpl : (backTo pos (starEach es X.env)).any (·.1) = false := by rfl) :
    PE X (.Call (.Name x p) (e :: es) [] pos) (tCall sp [] E0 t) :=
  let ⟨_, _, F, hm, kp, b⟩ := c
  pe_callG F gd (hr.mono hk) hg hm kp b .nil pass0 ha hdb he hpl
end
def dig (K : PySem.W.Frag) : Bool := He.eqO (PySem.W.nsIn K cStatics "sys.int_max_str_digits") (some none)
end Gk
namespace Gk
open PySem PySem.Spec PyProof.Rows L2
end Gk
namespace Gk
open PySem PySem.Spec PyProof.Rows L2
end Gk
namespace Gk
open PySem PySem.Spec PyProof.Rows L2
theorem vals_of : ∀ {xs : List V} {us : List Value}, xs.length = us.length → (∀ (j : Nat) (x : V) (u : Value), xs[j]? = some x → us[j]? = some u → RelV x u) → Vals xs us
  | [], [], _, _ => .nil
  | [], _ :: _, e, _ => by simp at e
  | _ :: _, [], e, _ => by simp at e
  | x :: xs, u :: us, e, h => .cons (h 0 x u rfl rfl) (vals_of (by simpa using e) fun j y v h1 h2 => h (j + 1) y v (by simpa using h1) (by simpa using h2))
section
variable {X : Cx}
def signsV (z : Str) : List V := z.cps.toList.map fun c => V.str ⟨#[c]⟩
theorem call_listS (calm : X.calm = true) : CallR X (.type "list") (fun xs H Q => ∃ z : Str, xs = [.str z] ∧ z.length ≤ 100000 ∧ ∀ l, H l = none → Q (.ref l) (upd H l (.lst (signsV z)))) := by
  intro pins s σ H xs us Q I r q
  obtain ⟨z, rfl, hz, q⟩ := q
  obtain ⟨u, rfl, t, rfl⟩ := vals1 r
  have hs : z.cps.size ≤ sizeLine := by
    have h : z.cps.size ≤ 100000 := hz
    rw [sizeLine_eq]
    omega
  apply call_list_str (I.ok.hd calm) z t (hn := hs)
  intro h' tk acc c' hk hS hacc
  have hn := I.hok.fresh (Nat.le_refl s.heap.objs.size)
  refine ⟨.ref s.heap.objs.size, upd H s.heap.objs.size (.lst (signsV z)), I.laid (t' := tk) hk (Nat.le_refl _) ?_, rfl, q _ hn⟩
  refine ⟨?_, acc.toList, c', vals_of ?_ ?_, by simpa using hS⟩
  · show (z.cps.toList.map _).length ≤ _
    rw [List.length_map, Array.length_toList]
    exact hs
  · show (z.cps.toList.map _).length = _
    rw [List.length_map, Array.length_toList, Array.length_toList, hacc.1]
  · intro j x u hx hu
    obtain ⟨c, t', hc, rfl⟩ := hacc.2 j u (by simpa using hu)
    have hx' : (z.cps.toList.map fun c => V.str ⟨#[c]⟩)[j]? = some x := hx
    rw [List.getElem?_map, Array.getElem?_toList, hc] at hx'
    cases hx'
    exact ⟨t', rfl⟩
end
end Gk
namespace Gk
open PySem PySem.Spec PyProof.Rows L2
section
variable {X : Cx}
theorem ix_tupH : IxR X (fun x y H Q => ∃ p xs i v, x = .ref p ∧ y = .int i ∧ H p = some (.tup xs) ∧ atI xs i = some v ∧ Q v H) := by
  intro value slice pins s σ H x y v u Q I rx ry h hs
  obtain ⟨p, xs, i, z, e1, e2, hp, ha, q⟩ := h
  exact ix_tup value slice pins s σ H x y v u Q I rx ry ⟨p, xs, i, z, e1, e2, .inl (.inl hp), ha, q⟩ hs
theorem ix_lstH : IxR X (fun x y H Q => ∃ p xs i v, x = .ref p ∧ y = .int i ∧ H p = some (.lst xs) ∧ atI xs i = some v ∧ Q v H) := by
  intro value slice pins s σ H x y v u Q I rx ry h hs
  obtain ⟨p, xs, i, z, e1, e2, hp, ha, q⟩ := h
  exact ix_list value slice pins s σ H x y v u Q I rx ry ⟨p, xs, i, z, e1, e2, .inl (.inl hp), ha, q⟩ hs
def HasSeq (H : Hp) (p : Addr) (xs : List V) : Prop := H p = some (.lst xs) ∨ H p = some (.tup xs)
theorem HasSeq.sq {K : PySem.W.Frag} {H : Hp} {p : Addr} {xs : List V} (h : HasSeq H p xs) : SqL K H p xs ∨ SqT K H p xs :=
  h.elim (fun z => .inl (.inl (.inl z))) fun z => .inr (.inl (.inl z))
theorem list_ofH : CallR X (.type "list") (fun xs H Q => ∃ p ys, xs = [.ref p] ∧ HasSeq H p ys ∧ ∀ l, H l = none → Q (.ref l) (upd H l (.lst ys))) := by
  intro pins s σ H xs us Q I r h
  obtain ⟨p, ys, e, hp, q⟩ := h
  exact call_list_of pins s σ H xs us Q I r ⟨p, ys, e, hp.sq, q⟩
theorem len_H : CallR X (.builtin "len") (fun xs H Q => ∃ p ys, xs = [.ref p] ∧ HasSeq H p ys ∧ Q (.int ys.length) H) := by
  intro pins s σ H xs us Q I r h
  obtain ⟨p, ys, e, hp, q⟩ := h
  exact call_len_seq pins s σ H xs us Q I r ⟨p, ys, e, hp.sq, q⟩
theorem in_H : OpR X (compareOp .In) (fun x y H Q => ∃ p xs, y = .ref p ∧ HasSeq H p xs ∧ flatV x = true ∧ xs.all flatV = true ∧ Q (.bl (inV x xs)) H) := by
  intro pins s σ H x y v u Q I rx ry h
  obtain ⟨p, xs, e, hp, f1, f2, q⟩ := h
  exact op_in_seq pins s σ H x y v u Q I rx ry ⟨p, xs, e, hp.sq, f1, f2, q⟩
end
end Gk
namespace Gk
open PySem PySem.Spec PyProof.Rows L2
end Gk
namespace Gk
open PySem PySem.Spec PyProof.Rows L2
end Gk
namespace Gk
open PySem PySem.Spec PyProof.Rows L2
theorem ps_dead {X : Cx} {st : Stmt} : PS X st (fun _ _ _ => False) := ⟨fun _ _ _ _ _ _ h => h.elim⟩
end Gk
namespace Vm
open PySem PySem.Spec PyProof.Rows L2
def tabsG : List NdefX.NTab := []
end Vm
namespace Vm
open PySem PySem.Spec PyProof.Rows L2 Gk
abbrev LIM : Nat := 1000000
abbrev SLIM : Nat := 16000000
/-- data; a dict's keys are ints and texts, or tuples of these -/
inductive Da where
  | none
  | bool (b : Bool)
  | int (i : Int)
  | str (s : Str)
  | list (xs : List Da)
  | tuple (xs : List Da)
  | dk (kvs : List (Key × Da))
  | dt (kvs : List (List Key × Da))
/-- a list of the module's own top -/
def KL (K : PySem.W.Frag) (a : Addr) (xs : List V) : Prop :=
  ∃ (o : Obj) (its : Array Value) (n : Nat), K.lookup a = some o ∧ o.cls = .type "list" ∧ o.dict = none ∧ o.data = .seq its n ∧ its.size ≤ sizeLine ∧ Vals xs its.toList
def KeyOk : Key → Prop
  | .inl _ => True
  | .inr s => s.length ≤ SLIM
mutual
inductive Dz (K : PySem.W.Frag) (p : List Addr) (H : Hp) : V → Da → Prop
  | non : Dz K p H .non .none
  | bl (b : Bool) : Dz K p H (.bl b) (.bool b)
  | int (i : Int) : Dz K p H (.int i) (.int i)
  | str (x : Str) : x.length ≤ SLIM → Dz K p H (.str x) (.str x)
  | lst {a : Addr} {xs : List V} {ds : List Da} : a ∉ p → H a = some (.lst xs) → xs.length ≤ LIM → DzA K p H xs ds → Dz K p H (.ref a) (.list ds)
  | tup {a : Addr} {xs : List V} {ds : List Da} : H a = some (.tup xs) → xs.length ≤ LIM → DzA K p H xs ds → Dz K p H (.ref a) (.tuple ds)
  | dk {a : Addr} {xs : List (Key × V)} {ds : List (Key × Da)} : a ∉ p → Rd H a (.dK xs) → xs.length ≤ LIM → DzK K p H xs ds → Dz K p H (.ref a) (.dk ds)
  | dt {a : Addr} {xs : List (List Key × V)} {ds : List (List Key × Da)} : a ∉ p → Rd H a (.dT xs) → xs.length ≤ LIM → DzT K p H xs ds → Dz K p H (.ref a) (.dt ds)
inductive DzA (K : PySem.W.Frag) (p : List Addr) (H : Hp) : List V → List Da → Prop
  | nil : DzA K p H [] []
  | cons {v : V} {vs : List V} {d : Da} {ds : List Da} : Dz K p H v d → DzA K p H vs ds → DzA K p H (v :: vs) (d :: ds)
inductive DzK (K : PySem.W.Frag) (p : List Addr) (H : Hp) : List (Key × V) → List (Key × Da) → Prop
  | nil : DzK K p H [] []
  | cons {k : Key} {v : V} {r : List (Key × V)} {d : Da} {s : List (Key × Da)} : KeyOk k → Dz K p H v d → DzK K p H r s → DzK K p H ((k, v) :: r) ((k, d) :: s)
inductive DzT (K : PySem.W.Frag) (p : List Addr) (H : Hp) : List (List Key × V) → List (List Key × Da) → Prop
  | nil : DzT K p H [] []
  | cons {k : List Key} {v : V} {r : List (List Key × V)} {d : Da} {s : List (List Key × Da)} : (∀ x ∈ k, KeyOk x) ∧ k.length ≤ LIM → Dz K p H v d → DzT K p H r s → DzT K p H ((k, v) :: r) ((k, d) :: s)
end
def HO.isTbl : HO → Bool
  | .tbl _ => true
  | _ => false
structure Tr (p : List Addr) (H : Hp) (p' : List Addr) (H' : Hp) : Prop where
  mt : ∀ a u, HO.isTbl u = false → a ∉ p → Rd H a u → Rd H' a u ∧ a ∉ p'
  ls : ∀ a xs, a ∉ p → H a = some (.lst xs) → H' a = some (.lst xs)
  tp : ∀ a xs, H a = some (.tup xs) → H' a = some (.tup xs)
  fz : ∀ a o u, a ∉ p → H a = some (.frz o u) → H' a = some (.frz o u)
section
variable {K : PySem.W.Frag} {p p' : List Addr} {H H' : Hp}
mutual
theorem Dz.tr (t : Tr p H p' H') : ∀ {v : V} {d : Da}, Dz K p H v d → Dz K p' H' v d
  | _, _, .non => .non
  | _, _, .bl b => .bl b
  | _, _, .int i => .int i
  | _, _, .str x h => .str x h
  | _, _, .lst n r l h => .lst (t.mt _ _ rfl n (.inl r)).2 (t.ls _ _ n r) l (DzA.tr t h)
  | _, _, .tup r l h => .tup (t.tp _ _ r) l (DzA.tr t h)
  | _, _, .dk n r l h => .dk (t.mt _ _ rfl n r).2 (t.mt _ _ rfl n r).1 l (DzK.tr t h)
  | _, _, .dt n r l h => .dt (t.mt _ _ rfl n r).2 (t.mt _ _ rfl n r).1 l (DzT.tr t h)
theorem DzA.tr (t : Tr p H p' H') : ∀ {v : List V} {d : List Da}, DzA K p H v d → DzA K p' H' v d
  | _, _, .nil => .nil
  | _, _, .cons h r => .cons (Dz.tr t h) (DzA.tr t r)
theorem DzK.tr (t : Tr p H p' H') : ∀ {v : List (Key × V)} {d : List (Key × Da)}, DzK K p H v d → DzK K p' H' v d
  | _, _, .nil => .nil
  | _, _, .cons k h r => .cons k (Dz.tr t h) (DzK.tr t r)
theorem DzT.tr (t : Tr p H p' H') : ∀ {v : List (List Key × V)} {d : List (List Key × Da)}, DzT K p H v d → DzT K p' H' v d
  | _, _, .nil => .nil
  | _, _, .cons k h r => .cons k (Dz.tr t h) (DzT.tr t r)
end
theorem DzA.length : ∀ {v : List V} {d : List Da}, DzA K p H v d → v.length = d.length
  | _, _, .nil => rfl
  | _, _, .cons _ r => congrArg (· + 1) (DzA.length r)
theorem DzK.length : ∀ {v : List (Key × V)} {d : List (Key × Da)}, DzK K p H v d → v.length = d.length
  | _, _, .nil => rfl
  | _, _, .cons _ _ r => congrArg (· + 1) (DzK.length r)
theorem DzT.length : ∀ {v : List (List Key × V)} {d : List (List Key × Da)}, DzT K p H v d → v.length = d.length
  | _, _, .nil => rfl
  | _, _, .cons _ _ r => congrArg (· + 1) (DzT.length r)
theorem DzA.append : ∀ {v w : List V} {d e : List Da}, DzA K p H v d → DzA K p H w e → DzA K p H (v ++ w) (d ++ e)
  | _, _, _, _, .nil, s => s
  | _, _, _, _, .cons h r, s => .cons h (DzA.append r s)
theorem DzA.take : ∀ {v : List V} {d : List Da} (n : Nat), DzA K p H v d → DzA K p H (v.take n) (d.take n)
  | _, _, 0, _ => .nil
  | _, _, _ + 1, .nil => .nil
  | _, _, n + 1, .cons h r => .cons h (DzA.take n r)
theorem DzA.drop : ∀ {v : List V} {d : List Da} (n : Nat), DzA K p H v d → DzA K p H (v.drop n) (d.drop n)
  | _, _, 0, r => r
  | _, _, _ + 1, .nil => .nil
  | _, _, n + 1, .cons _ r => DzA.drop n r
theorem DzA.get : ∀ {v : List V} {d : List Da} {i : Nat} {x : Da}, DzA K p H v d → d[i]? = some x → ∃ y, v[i]? = some y ∧ Dz K p H y x
  | _, _, _, _, .nil, e => by simp at e
  | _, _, 0, _, .cons h _, e => by simp at e; subst e; exact ⟨_, rfl, h⟩
  | _, _, i + 1, x, .cons _ r, e => by
    obtain ⟨y, h1, h2⟩ := DzA.get (i := i) (x := x) r (by simpa using e)
    exact ⟨y, by simpa using h1, h2⟩
theorem DzA.set : ∀ {v : List V} {d : List Da} (i : Nat) {y : V} {x : Da}, DzA K p H v d → Dz K p H y x → DzA K p H (v.set i y) (d.set i x)
  | _, _, _, _, _, .nil, _ => .nil
  | _, _, 0, _, _, .cons _ r, h => .cons h r
  | _, _, i + 1, _, _, .cons h r, q => .cons h (DzA.set i r q)
theorem DzA.reverse {v : List V} {d : List Da} (h : DzA K p H v d) : DzA K p H v.reverse d.reverse := by
  induction v generalizing d with
  | nil => cases h; exact .nil
  | cons a r ih =>
    cases h with
    | cons h1 h2 =>
      rw [List.reverse_cons, List.reverse_cons]
      exact (ih h2).append (.cons h1 .nil)
end
end Vm
namespace Vm
open PySem PySem.Spec PyProof.Rows L2 Gk
/-- what stands at a, exactly, or seen through a lock -/
def Ho (lk : Bool) (H : Hp) (a : Addr) (u : HO) : Prop := if lk = true then Rd H a u else H a = some u
/-- an own list or dict whose parts are data -/
def Top (K : PySem.W.Frag) (p : List Addr) (H : Hp) (lk : Bool) (a : Addr) : Da → Prop
  | .list xs => ∃ vs, H a = some (.lst vs) ∧ vs.length ≤ LIM ∧ DzA K p H vs xs
  | .dk kvs => ∃ xs, Ho lk H a (.dK xs) ∧ xs.length ≤ LIM ∧ DzK K p H xs kvs
  | .dt kvs => ∃ xs, Ho lk H a (.dT xs) ∧ xs.length ≤ LIM ∧ DzT K p H xs kvs
  | _ => False
inductive KidsK (K : PySem.W.Frag) (p : List Addr) (H : Hp) : List (Key × V) → List (Key × Da) → List Addr → Prop
  | nil : KidsK K p H [] [] []
  | cons {k : Key} {c : Addr} {r : List (Key × V)} {x : Da} {s : List (Key × Da)} {as : List Addr} : KeyOk k → Top K p H false c x → KidsK K p H r s as → KidsK K p H ((k, .ref c) :: r) ((k, x) :: s) (c :: as)
inductive KidsT (K : PySem.W.Frag) (p : List Addr) (H : Hp) : List (List Key × V) → List (List Key × Da) → List Addr → Prop
  | nil : KidsT K p H [] [] []
  | cons {k : List Key} {c : Addr} {r : List (List Key × V)} {x : Da} {s : List (List Key × Da)} {as : List Addr} : (∀ x ∈ k, KeyOk x) ∧ k.length ≤ LIM → Top K p H false c x → KidsT K p H r s as → KidsT K p H ((k, .ref c) :: r) ((k, x) :: s) (c :: as)
/-- an own dict whose values are own things -/
def Nest (K : PySem.W.Frag) (p : List Addr) (H : Hp) (lk : Bool) (a : Addr) (as : List Addr) : Da → Prop
  | .dk kvs => ∃ xs, Ho lk H a (.dK xs) ∧ xs.length ≤ LIM ∧ KidsK K p H xs kvs as
  | .dt kvs => ∃ xs, Ho lk H a (.dT xs) ∧ xs.length ≤ LIM ∧ KidsT K p H xs kvs as
  | _ => False
/-- a slot: unset, data, an own thing (fx: the name stays with it; lk: it is not changed), a nested one, the script -/
inductive AV where
  | un
  | d (x : Da)
  | r (fx lk : Bool) (x : Da)
  | n (fx lk : Bool) (x : Da)
  | sc (ns : List Int)
  | g (φ : List Addr → Hp → Addr → Prop)
abbrev AS := List AV
def AV.isRoot : AV → Bool
  | .r _ _ _ => true
  | .n _ _ _ => true
  | _ => false
def AV.isFix : AV → Bool
  | .r f _ _ => f
  | .n f _ _ => f
  | _ => false
def AV.isLk : AV → Bool
  | .r _ l _ => l
  | .n _ l _ => l
  | _ => false
/-- what a slot shows -/
def AV.see : AV → Option Da
  | .d x => some x
  | .r _ _ x => some x
  | _ => none
/-- what a slot holds for good -/
def AV.get : AV → Option Da
  | .d x => some x
  | _ => none
def SlotR (K : PySem.W.Frag) (p : List Addr) (H : Hp) (o : Option V) (f : List Addr) : AV → Prop
  | .un => f = []
  | .d x => f = [] ∧ ∃ v, o = some v ∧ Dz K p H v x
  | .r _ lk x => ∃ a, o = some (.ref a) ∧ f = [a] ∧ Top K p H lk a x
  | .n _ lk x => ∃ a as, o = some (.ref a) ∧ f = a :: as ∧ Nest K p H lk a as x
  | .sc ns => f = [] ∧ ∃ a, o = some (.ref a) ∧ ((a ∉ p ∧ Rd H a (.lst (ns.map V.int))) ∨ KL K a (ns.map V.int))
  | .g φ => f = [] ∧ ∃ a, o = some (.ref a) ∧ φ p H a ∧ ∀ p1 H1 p2 H2, Tr p1 H1 p2 H2 → φ p1 H1 a → φ p2 H2 a
/-- the tables of code: they stand, and no slot owns them -/
def TabP (p : List Addr) (H : Hp) : Prop := NdefX.TabsN tabsG H ∧ ∀ q ∈ tabsG, q.1 ∉ p
abbrev FT := Nat → List Addr
structure Rel (K : PySem.W.Frag) (p : List Addr) (H : Hp) (σ : L2.St) (α : AS) (A : FT) : Prop where
  len : σ.length = α.length
  sl : ∀ (i : Nat) (r : AV), α[i]? = some r → SlotR K p H (σ[i]?).join (A i) r
  out : ∀ i : Nat, α[i]? = none → A i = []
  nd : ∀ i, (A i).Nodup
  dj : ∀ i j a, a ∈ A i → a ∈ A j → i = j
  inp : ∀ i a, a ∈ A i → a ∈ p
  al : ∀ a ∈ p, H a ≠ none
  tb : TabP p H
def HO.isDict : HO → Bool
  | .dK _ => true
  | .dT _ => true
  | _ => false
/-- what was there is there; a dict of data may have been locked for good -/
def Kept (p : List Addr) (b : Addr) (o : HO) (H' : Hp) : Prop := H' b = some o ∨ (b ∉ p ∧ HO.isDict o = true ∧ ∃ od, H' b = some (.frz od o))
/-- a slot that stays: its flags; a locked one is as it was -/
structure Kin (r r' : AV) : Prop where
  fx : r'.isFix = r.isFix
  lk : r'.isLk = r.isLk
  rt : r'.isRoot = r.isRoot
  eq : r.isLk = true → r' = r
theorem Kin.refl {r : AV} : Kin r r := ⟨rfl, rfl, rfl, fun _ => rfl⟩
theorem Kin.trans {r s t : AV} (a : Kin r s) (b : Kin s t) : Kin r t := ⟨b.fx.trans a.fx, b.lk.trans a.lk, b.rt.trans a.rt, fun h => (b.eq (a.lk.trans h)).trans (a.eq h)⟩
structure Step (p : List Addr) (H : Hp) (σ : L2.St) (α : AS) (A : FT) (p' : List Addr) (H' : Hp) (σ' : L2.St) (α' : AS) (A' : FT) : Prop where
  keep : ∀ b o, HO.isTbl o = false → H b = some o → (∀ i, b ∉ A i) → Kept p b o H'
  dom : ∀ b, H' b = none → H b = none
  new : ∀ i b, b ∈ A' i → b ∈ A i ∨ H b = none
  sub : ∀ b ∈ p', b ∈ p ∨ H b = none
  mono : ∀ b ∈ p, b ∈ p' ∨ ∃ i, b ∈ A i
  ln : α'.length = α.length
  fix : ∀ (i : Nat) (r : AV), α[i]? = some r → r.isFix = true → σ'[i]? = σ[i]? ∧ ∃ r', α'[i]? = some r' ∧ Kin r r'
  nof : ∀ (i : Nat) (r : AV), α'[i]? = some r → r.isFix = true → ∃ q, α[i]? = some q ∧ q.isFix = true
section
variable {K : PySem.W.Frag} {p p' p2 : List Addr} {H H' H2 : Hp} {σ σ' σ2 : L2.St} {α α' α2 : AS} {A A' A2 : FT}
theorem isRoot_of_isFix {r : AV} (h : r.isFix = true) : r.isRoot = true := by
  cases r <;> first | rfl | cases h
theorem Rd.ne_none {a : Addr} {u : HO} (h : Rd H a u) : H a ≠ none := by
  rcases h with h | ⟨_, h⟩ <;> rw [h] <;> intro z <;> cases z
theorem Rd.same {a : Addr} (s : ∀ o, H a = some o → H' a = some o) {u : HO} (h : Rd H a u) : Rd H' a u := by
  rcases h with h | ⟨o, h⟩
  · exact .inl (s _ h)
  · exact .inr ⟨o, s _ h⟩
theorem Ho.rd {lk : Bool} {a : Addr} {u : HO} (h : Ho lk H a u) : Rd H a u := by
  unfold Ho at h
  split at h
  · exact h
  · exact .inl h
theorem Ho.ex {a : Addr} {u : HO} (h : Ho false H a u) : H a = some u := by
  unfold Ho at h
  rwa [if_neg (by simp)] at h
theorem Ho.of {lk : Bool} {a : Addr} {u : HO} (h : H a = some u) : Ho lk H a u := by
  unfold Ho
  split
  · exact .inl h
  · exact h
theorem Ho.lkd {a : Addr} {u : HO} (h : Rd H a u) : Ho true H a u := by
  unfold Ho
  rw [if_pos rfl]
  exact h
theorem Ho.same {lk : Bool} {a : Addr} (s : ∀ o, H a = some o → H' a = some o) {u : HO} (h : Ho lk H a u) : Ho lk H' a u := by
  cases lk with
  | true => exact .lkd (Rd.same s h.rd)
  | false => exact .of (s _ h.ex)
theorem Top.tr {lk : Bool} {a : Addr} {x : Da} (t : Tr p H p' H') (s : ∀ o, H a = some o → H' a = some o) (h : Top K p H lk a x) : Top K p' H' lk a x := by
  cases x with
  | list xs => obtain ⟨vs, h1, h2, h3⟩ := h; exact ⟨vs, s _ h1, h2, h3.tr t⟩
  | dk xs => obtain ⟨vs, h1, h2, h3⟩ := h; exact ⟨vs, h1.same s, h2, h3.tr t⟩
  | dt xs => obtain ⟨vs, h1, h2, h3⟩ := h; exact ⟨vs, h1.same s, h2, h3.tr t⟩
  | _ => exact h.elim
theorem Top.lock {lk : Bool} {a : Addr} {x : Da} (h : Top K p H lk a x) : Top K p H true a x := by
  cases x with
  | list xs => exact h
  | dk xs => obtain ⟨vs, h1, h2, h3⟩ := h; exact ⟨vs, .lkd h1.rd, h2, h3⟩
  | dt xs => obtain ⟨vs, h1, h2, h3⟩ := h; exact ⟨vs, .lkd h1.rd, h2, h3⟩
  | _ => exact h.elim
theorem Top.mut {lk : Bool} {a : Addr} {x : Da} (h : Top K p H lk a x) : ∃ u, Rd H a u ∧ ((∃ vs, u = .lst vs) ∨ (∃ vs, u = .dK vs) ∨ ∃ vs, u = .dT vs) := by
  cases x with
  | list xs => obtain ⟨vs, h1, h2, h3⟩ := h; exact ⟨_, .inl h1, .inl ⟨_, rfl⟩⟩
  | dk xs => obtain ⟨vs, h1, h2, h3⟩ := h; exact ⟨_, h1.rd, .inr (.inl ⟨_, rfl⟩)⟩
  | dt xs => obtain ⟨vs, h1, h2, h3⟩ := h; exact ⟨_, h1.rd, .inr (.inr ⟨_, rfl⟩)⟩
  | _ => exact h.elim
theorem KidsK.tr (t : Tr p H p' H') : ∀ {r : List (Key × V)} {s : List (Key × Da)} {as : List Addr}, (∀ c ∈ as, ∀ o, H c = some o → H' c = some o) → KidsK K p H r s as → KidsK K p' H' r s as
  | _, _, _, _, .nil => .nil
  | _, _, _, k, .cons h1 h2 h3 => .cons h1 (h2.tr t (k _ (List.mem_cons_self ..))) (KidsK.tr t (fun c m => k c (List.mem_cons_of_mem _ m)) h3)
theorem KidsT.tr (t : Tr p H p' H') : ∀ {r : List (List Key × V)} {s : List (List Key × Da)} {as : List Addr}, (∀ c ∈ as, ∀ o, H c = some o → H' c = some o) → KidsT K p H r s as → KidsT K p' H' r s as
  | _, _, _, _, .nil => .nil
  | _, _, _, k, .cons h1 h2 h3 => .cons h1 (h2.tr t (k _ (List.mem_cons_self ..))) (KidsT.tr t (fun c m => k c (List.mem_cons_of_mem _ m)) h3)
theorem Nest.tr {lk : Bool} {a : Addr} {as : List Addr} {x : Da} (t : Tr p H p' H') (s : ∀ c ∈ a :: as, ∀ o, H c = some o → H' c = some o) (h : Nest K p H lk a as x) : Nest K p' H' lk a as x := by
  cases x with
  | dk xs => obtain ⟨vs, h1, h2, h3⟩ := h; exact ⟨vs, h1.same (s a (List.mem_cons_self ..)), h2, h3.tr t fun c m => s c (List.mem_cons_of_mem _ m)⟩
  | dt xs => obtain ⟨vs, h1, h2, h3⟩ := h; exact ⟨vs, h1.same (s a (List.mem_cons_self ..)), h2, h3.tr t fun c m => s c (List.mem_cons_of_mem _ m)⟩
  | _ => exact h.elim
theorem Nest.lock {lk : Bool} {a : Addr} {as : List Addr} {x : Da} (h : Nest K p H lk a as x) : Nest K p H true a as x := by
  cases x with
  | dk xs => obtain ⟨vs, h1, h2, h3⟩ := h; exact ⟨vs, .lkd h1.rd, h2, h3⟩
  | dt xs => obtain ⟨vs, h1, h2, h3⟩ := h; exact ⟨vs, .lkd h1.rd, h2, h3⟩
  | _ => exact h.elim
theorem KidsK.mut : ∀ {r : List (Key × V)} {s : List (Key × Da)} {as : List Addr}, KidsK K p H r s as → ∀ c ∈ as, ∃ u, Rd H c u ∧ ((∃ vs, u = .lst vs) ∨ (∃ vs, u = .dK vs) ∨ ∃ vs, u = .dT vs)
  | _, _, _, .nil, _, m => (List.not_mem_nil m).elim
  | _, _, _, .cons h1 h2 h3, c, m => by
    rcases List.mem_cons.mp m with rfl | m
    · exact h2.mut
    · exact KidsK.mut h3 c m
theorem KidsT.mut : ∀ {r : List (List Key × V)} {s : List (List Key × Da)} {as : List Addr}, KidsT K p H r s as → ∀ c ∈ as, ∃ u, Rd H c u ∧ ((∃ vs, u = .lst vs) ∨ (∃ vs, u = .dK vs) ∨ ∃ vs, u = .dT vs)
  | _, _, _, .nil, _, m => (List.not_mem_nil m).elim
  | _, _, _, .cons h1 h2 h3, c, m => by
    rcases List.mem_cons.mp m with rfl | m
    · exact h2.mut
    · exact KidsT.mut h3 c m
theorem Nest.mut {lk : Bool} {a : Addr} {as : List Addr} {x : Da} (h : Nest K p H lk a as x) : ∀ c ∈ a :: as, ∃ u, Rd H c u ∧ ((∃ vs, u = .lst vs) ∨ (∃ vs, u = .dK vs) ∨ ∃ vs, u = .dT vs) := fun c m => by
  cases x with
  | dk xs =>
    obtain ⟨vs, h1, h2, h3⟩ := h
    rcases List.mem_cons.mp m with rfl | m
    · exact ⟨_, h1.rd, .inr (.inl ⟨_, rfl⟩)⟩
    · exact h3.mut c m
  | dt xs =>
    obtain ⟨vs, h1, h2, h3⟩ := h
    rcases List.mem_cons.mp m with rfl | m
    · exact ⟨_, h1.rd, .inr (.inr ⟨_, rfl⟩)⟩
    · exact h3.mut c m
  | _ => exact h.elim
theorem SlotR.tr {o : Option V} {f : List Addr} {r : AV} (t : Tr p H p' H') (s : ∀ c ∈ f, ∀ u, H c = some u → H' c = some u) (h : SlotR K p H o f r) : SlotR K p' H' o f r := by
  cases r with
  | un => exact h
  | d x => obtain ⟨rfl, v, e, h⟩ := h; exact ⟨rfl, v, e, h.tr t⟩
  | r fx lk x => obtain ⟨a, e, rfl, h⟩ := h; exact ⟨a, e, rfl, h.tr t (s a (List.mem_cons_self ..))⟩
  | n fx lk x => obtain ⟨a, as, e, rfl, h⟩ := h; exact ⟨a, as, e, rfl, h.tr t s⟩
  | sc ns =>
    obtain ⟨rfl, a, e, h⟩ := h
    refine ⟨rfl, a, e, h.elim (fun z => .inl ?_) .inr⟩
    have := t.mt a _ rfl z.1 z.2
    exact ⟨this.2, this.1⟩
  | g φ => obtain ⟨rfl, a, e, h, k⟩ := h; exact ⟨rfl, a, e, k _ _ _ _ t h, k⟩
theorem SlotR.mut {o : Option V} {f : List Addr} {r : AV} (h : SlotR K p H o f r) : ∀ c ∈ f, ∃ u, Rd H c u ∧ ((∃ vs, u = .lst vs) ∨ (∃ vs, u = .dK vs) ∨ ∃ vs, u = .dT vs) := fun c m => by
  cases r with
  | un => rw [show f = [] from h] at m; exact (List.not_mem_nil m).elim
  | d x => rw [h.1] at m; exact (List.not_mem_nil m).elim
  | r fx lk x => obtain ⟨a, e, rfl, h⟩ := h; cases List.mem_singleton.mp m; exact h.mut
  | n fx lk x => obtain ⟨a, as, e, rfl, h⟩ := h; exact h.mut c m
  | sc ns => rw [h.1] at m; exact (List.not_mem_nil m).elim
  | g φ => rw [h.1] at m; exact (List.not_mem_nil m).elim
theorem Rel.has_slot (R : Rel K p H σ α A) {i : Nat} {a : Addr} (h : a ∈ A i) : ∃ r, α[i]? = some r := by
  cases e : α[i]? with
  | some r => exact ⟨r, rfl⟩
  | none => rw [R.out i e] at h; exact (List.not_mem_nil h).elim
theorem Rel.not_tup (R : Rel K p H σ α A) {i : Nat} {a : Addr} {xs : List V} (h : a ∈ A i) (t : H a = some (.tup xs)) : False := by
  obtain ⟨r, e⟩ := R.has_slot h
  obtain ⟨u, q, z⟩ := (R.sl i r e).mut a h
  rcases q with q | ⟨o, q⟩
  · rw [t] at q
    cases q
    rcases z with ⟨_, z⟩ | ⟨_, z⟩ | ⟨_, z⟩ <;> cases z
  · rw [t] at q; cases q
theorem Rel.own_tbl (R : Rel K p H σ α A) {i : Nat} {a : Addr} {u : HO} (h : a ∈ A i) (e : H a = some u) : HO.isTbl u = false := by
  obtain ⟨r, er⟩ := R.has_slot h
  obtain ⟨v, q, z⟩ := (R.sl i r er).mut a h
  rcases q with q | ⟨o, q⟩
  · rw [e] at q
    cases q
    rcases z with ⟨_, rfl⟩ | ⟨_, rfl⟩ | ⟨_, rfl⟩ <;> rfl
  · rw [e] at q
    cases q
    rfl
theorem Kept.ex {b : Addr} {o : HO} (h : Kept p b o H') (n : HO.isDict o = false) : H' b = some o := by
  rcases h with h | ⟨_, z, _⟩
  · exact h
  · rw [n] at z; cases z
theorem Kept.exp {b : Addr} {o : HO} (h : Kept p b o H') (n : b ∈ p) : H' b = some o := by
  rcases h with h | ⟨z, _⟩
  · exact h
  · exact (z n).elim
theorem Step.rd (S : Step p H σ α A p' H' σ' α' A') {b : Addr} {u : HO} (hu : HO.isTbl u = false) (h : Rd H b u) (n : ∀ i, b ∉ A i) : Rd H' b u := by
  rcases h with h | ⟨o, h⟩
  · rcases S.keep b _ hu h n with z | ⟨_, _, od, z⟩
    · exact .inl z
    · exact .inr ⟨od, z⟩
  · exact .inr ⟨o, (S.keep b _ rfl h n).ex rfl⟩
theorem Step.tr (R : Rel K p H σ α A) (S : Step p H σ α A p' H' σ' α' A') : Tr p H p' H' := by
  refine ⟨fun a u hu n r => ⟨S.rd hu r fun i h => n (R.inp i a h), fun m => ?_⟩, fun a xs n r => (S.keep a _ rfl r fun i h => n (R.inp i a h)).ex rfl, fun a xs r => (S.keep a _ rfl r fun i h => R.not_tup h r).ex rfl, fun a o u n r => (S.keep a _ rfl r fun i h => n (R.inp i a h)).ex rfl⟩
  rcases S.sub a m with z | z
  · exact n z
  · exact Rd.ne_none r z
theorem Step.refl : Step p H σ α A p H σ α A :=
  ⟨fun _ _ _ h _ => .inl h, fun _ h => h, fun i b h => .inl h, fun _ h => .inl h, fun _ h => .inl h, rfl, fun i r h f => ⟨rfl, r, h, .refl⟩, fun i r h f => ⟨r, h, f⟩⟩
theorem Step.trans (R : Rel K p H σ α A) (S : Step p H σ α A p' H' σ' α' A') (T : Step p' H' σ' α' A' p2 H2 σ2 α2 A2) : Step p H σ α A p2 H2 σ2 α2 A2 where
  keep := fun b o ht h n => by
    have n' : ∀ i, b ∉ A' i := fun i r => by
      rcases S.new i b r with z | z
      · exact n i z
      · rw [h] at z; cases z
    rcases S.keep b o ht h n with z | ⟨z1, z2, od, z3⟩
    · rcases T.keep b o ht z n' with w | ⟨w1, w2, w3⟩
      · exact .inl w
      · refine .inr ⟨fun m => ?_, w2, w3⟩
        rcases S.mono b m with y | ⟨i, y⟩
        · exact w1 y
        · exact n i y
    · exact .inr ⟨z1, z2, od, (T.keep b _ rfl z3 n').ex rfl⟩
  dom := fun b h => S.dom b (T.dom b h)
  new := fun i b h => by
    rcases T.new i b h with z | z
    · exact S.new i b z
    · exact .inr (S.dom b z)
  sub := fun b h => by
    rcases T.sub b h with z | z
    · exact S.sub b z
    · exact .inr (S.dom b z)
  mono := fun b h => by
    rcases S.mono b h with z | z
    · rcases T.mono b z with w | ⟨i, w⟩
      · exact .inl w
      · rcases S.new i b w with y | y
        · exact .inr ⟨i, y⟩
        · exact (R.al b h y).elim
    · exact .inr z
  ln := T.ln.trans S.ln
  fix := fun i r h f => by
    obtain ⟨e1, r1, h1, f1⟩ := S.fix i r h f
    obtain ⟨e2, r2, h2, f2⟩ := T.fix i r1 h1 (f1.fx.trans f)
    exact ⟨e2.trans e1, r2, h2, f1.trans f2⟩
  nof := fun i r h f => by
    obtain ⟨q, h1, f1⟩ := T.nof i r h f
    exact S.nof i q h1 f1
theorem tr_same (s : Same H H') : Tr p H p H' := ⟨fun a u _ n r => ⟨Rd.same (fun o e => s a o e) r, n⟩, fun a xs _ r => s a _ r, fun a xs r => s a _ r, fun a o u _ r => s a _ r⟩
theorem tr_new {L : Addr} (hL : H L = none) (s : Same H H') : Tr p H (L :: p) H' :=
  ⟨fun a u _ n r => ⟨Rd.same (fun o e => s a o e) r, fun m => by
    rcases List.mem_cons.mp m with z | z
    · subst z; exact Rd.ne_none r hL
    · exact n z⟩, fun a xs _ r => s a _ r, fun a xs r => s a _ r, fun a o u _ r => s a _ r⟩
theorem tr_less {q : List Addr} (h : ∀ b ∈ q, b ∈ p) : Tr p H q H := ⟨fun a u _ n r => ⟨r, fun m => n (h a m)⟩, fun a xs _ r => r, fun a xs r => r, fun a o u _ r => r⟩
theorem TabP.same (T : TabP p H) (s : ∀ b o, H b = some o → H' b = some o) : TabP p H' := ⟨T.1.ext s, T.2⟩
/-- what writes at no table and no code -/
theorem TabP.put (T : TabP p H) {q : List Addr} {a : Addr} (s : ∀ b o, b ≠ a → H b = some o → H' b = some o) (na : ∀ o, H a = some o → HO.isTbl o = false ∧ ∀ φ, o ≠ .ext φ) (hq : ∀ b ∈ q, b ∈ p ∨ H b = none) : TabP q H' := by
  refine ⟨fun t mt => ?_, fun t mt m => ?_⟩
  · obtain ⟨ps, h1, h2, h3⟩ := T.1 t mt
    refine ⟨ps, s _ _ (fun z => by rw [z] at h1; have := (na _ h1).1; cases this) h1, h2, fun pos cv hc => ?_⟩
    obtain ⟨c, e1, e2⟩ := h3 pos cv hc
    exact ⟨c, e1, s _ _ (fun z => by rw [z] at e2; exact (na _ e2).2 _ rfl) e2⟩
  · obtain ⟨ps, h1, _⟩ := T.1 t mt
    rcases hq _ m with z | z
    · exact T.2 t mt z
    · rw [h1] at z; cases z
theorem TabP.sub (T : TabP p H) {q : List Addr} (hq : ∀ b ∈ q, b ∈ p ∨ H b = none) : TabP q H := ⟨T.1, fun t mt m => by
  obtain ⟨ps, h1, _⟩ := T.1 t mt
  rcases hq _ m with z | z
  · exact T.2 t mt z
  · rw [h1] at z; cases z⟩
theorem Rel.same (R : Rel K p H σ α A) (s : Same H H') : Rel K p H' σ α A :=
  ⟨R.len, fun i r e => (R.sl i r e).tr (tr_same s) fun c _ u e => s c u e, R.out, R.nd, R.dj, R.inp, fun a m z => R.al a m (Same.free s z), R.tb.same s⟩
theorem Step.same (s : Same H H') : Step p H σ α A p H' σ α A :=
  ⟨fun b o _ h _ => .inl (s b o h), fun b h => Same.free s h, fun i b h => .inl h, fun _ h => .inl h, fun _ h => .inl h, rfl, fun i r h f => ⟨rfl, r, h, .refl⟩, fun i r h f => ⟨r, h, f⟩⟩
/-- changing slot i -/
def setF (A : FT) (i : Nat) (f : List Addr) : FT := fun j => if j = i then f else A j
theorem setF_same {i : Nat} {f : List Addr} : setF A i f i = f := by unfold setF; rw [if_pos rfl]
theorem setF_ne {i j : Nat} {f : List Addr} (h : j ≠ i) : setF A i f j = A j := by unfold setF; rw [if_neg h]
theorem setF_mem {i j : Nat} {f : List Addr} {a : Addr} (h : a ∈ setF A i f j) : (j = i ∧ a ∈ f) ∨ (j ≠ i ∧ a ∈ A j) := by
  unfold setF at h
  split at h
  · exact .inl ⟨by assumption, h⟩
  · exact .inr ⟨by assumption, h⟩
theorem Rel.lt (R : Rel K p H σ α A) {i : Nat} {r : AV} (h : α[i]? = some r) : i < σ.length := by
  rw [R.len]; exact (List.getElem?_eq_some_iff.mp h).1
theorem Rel.in_al (R : Rel K p H σ α A) {i : Nat} {a : Addr} (h : a ∈ A i) : H a ≠ none := R.al a (R.inp i a h)
/-- the general change of one slot: its value, kind and footprint; the heap is so that all else stands -/
theorem rel_put {i : Nat} {q r : AV} {o : Option V} {f : List Addr} (R : Rel K p H σ α A) (hi : α[i]? = some q) (hs : SlotR K p H o f r) (hnd : f.Nodup) (hin : ∀ a ∈ f, a ∈ p) (hdj : ∀ a ∈ f, ∀ j, j ≠ i → a ∉ A j) :
    Rel K p H (σ.set i o) (α.set i r) (setF A i f) := by
  have hia : i < α.length := (List.getElem?_eq_some_iff.mp hi).1
  have his : i < σ.length := R.lt hi
  refine ⟨by rw [List.length_set, List.length_set, R.len], fun j s h => ?_, fun j h => ?_, fun j => ?_, fun j k a h1 h2 => ?_, fun j a h => ?_, R.al, R.tb⟩
  · by_cases e : j = i
    · subst e
      rw [List.getElem?_set_self hia] at h
      cases h
      rw [setF_same, List.getElem?_set_self his]
      exact hs
    · rw [List.getElem?_set_ne (fun z => e z.symm)] at h
      rw [setF_ne e, List.getElem?_set_ne (fun z => e z.symm)]
      exact R.sl j s h
  · have e : j ≠ i := fun z => by subst z; rw [List.getElem?_set_self hia] at h; cases h
    rw [List.getElem?_set_ne (fun z => e z.symm)] at h
    rw [setF_ne e]
    exact R.out j h
  · by_cases e : j = i
    · subst e; rw [setF_same]; exact hnd
    · rw [setF_ne e]; exact R.nd j
  · rcases setF_mem h1 with ⟨rfl, m1⟩ | ⟨n1, m1⟩ <;> rcases setF_mem h2 with ⟨rfl, m2⟩ | ⟨n2, m2⟩
    · rfl
    · exact (hdj a m1 k n2 m2).elim
    · exact (hdj a m2 j n1 m1).elim
    · exact R.dj j k a m1 m2
  · rcases setF_mem h with ⟨rfl, m⟩ | ⟨_, m⟩
    · exact hin a m
    · exact R.inp j a m
theorem step_put {i : Nat} {q r : AV} {o : Option V} {f : List Addr} (R : Rel K p H σ α A) (hi : α[i]? = some q) (hf : q.isFix = false) (hr : r.isFix = false) (hin : ∀ a ∈ f, a ∈ A i ∨ H a = none) :
    Step p H σ α A p H (σ.set i o) (α.set i r) (setF A i f) := by
  have hia : i < α.length := (List.getElem?_eq_some_iff.mp hi).1
  refine ⟨fun _ _ _ h _ => .inl h, fun _ h => h, fun j b h => ?_, fun _ h => .inl h, fun _ h => .inl h, by rw [List.length_set], fun j s h g => ?_, fun j s h g => ?_⟩
  · rcases setF_mem h with ⟨rfl, m⟩ | ⟨_, m⟩
    · exact hin b m
    · exact .inl m
  · have e : j ≠ i := fun z => by subst z; rw [hi] at h; cases h; rw [hf] at g; cases g
    rw [List.getElem?_set_ne (fun z => e z.symm), List.getElem?_set_ne (fun z => e z.symm)]
    exact ⟨rfl, s, h, .refl⟩
  · by_cases e : j = i
    · subst e
      rw [List.getElem?_set_self hia] at h
      cases h
      rw [hr] at g; cases g
    · rw [List.getElem?_set_ne (fun z => e z.symm)] at h
      exact ⟨s, h, g⟩
end
end Vm
namespace Vm
open PySem PySem.Spec PyProof.Rows L2 Gk
inductive Lc where
  | d (x : Da)
  | s (i : Nat)
abbrev ME := AS → Option (Lc × AS)
abbrev MT := AS → Option (Bool × AS)
abbrev MA := AS → Option (List Lc × AS)
def res (α : AS) : Lc → Option Da
  | .d x => some x
  | .s i => (α[i]?).bind AV.see
def resA (α : AS) : List Lc → Option (List Da)
  | [] => some []
  | l :: r => (res α l).bind fun x => (resA α r).bind fun xs => some (x :: xs)
def LocR (K : PySem.W.Frag) (p : List Addr) (H : Hp) (σ : L2.St) (v : V) : Lc → Prop
  | .d x => Dz K p H v x
  | .s i => σ[i]? = some (some v)
def LocA (K : PySem.W.Frag) (p : List Addr) (H : Hp) (σ : L2.St) : List V → List Lc → Prop := Paired fun v l => LocR K p H σ v l
inductive Vz (K : PySem.W.Frag) (p : List Addr) (H : Hp) : V → Da → Prop
  | of {v : V} {x : Da} : Dz K p H v x → Vz K p H v x
  | top {a : Addr} {x : Da} : Top K p H true a x → Vz K p H (.ref a) x
abbrev VzA (K : PySem.W.Frag) (p : List Addr) (H : Hp) : List V → List Da → Prop := Paired fun v x => Vz K p H v x
structure RefE (K : PySem.W.Frag) (t : TE) (m : ME) : Prop where
  go : ∀ p H σ α A l α' Q, Rel K p H σ α A → m α = some (l, α') →
    (∀ p' H' A' v, Rel K p' H' σ α' A' → Step p H σ α A p' H' σ α' A' → LocR K p' H' σ v l → Q v H') → t σ H Q
structure RefT (K : PySem.W.Frag) (t : TT) (m : MT) : Prop where
  go : ∀ p H σ α A b α' Q, Rel K p H σ α A → m α = some (b, α') →
    (∀ p' H' A', Rel K p' H' σ α' A' → Step p H σ α A p' H' σ α' A' → Q b H') → t σ H Q
structure RefA (K : PySem.W.Frag) (t : TA) (m : MA) : Prop where
  go : ∀ p H σ α A l α' Q, Rel K p H σ α A → m α = some (l, α') →
    (∀ p' H' A' vs, Rel K p' H' σ α' A' → Step p H σ α A p' H' σ α' A' → LocA K p' H' σ vs l → Q vs H') → t σ H Q
section
variable {K : PySem.W.Frag} {p p' p2 : List Addr} {H H' H2 : Hp} {σ σ' σ2 : L2.St} {α α' α2 : AS} {A A' A2 : FT}
theorem LocR.step {v : V} {l : Lc} (R : Rel K p H σ α A) (S : Step p H σ α A p' H' σ α' A') (h : LocR K p H σ v l) : LocR K p' H' σ v l := by
  cases l with
  | d x => exact Dz.tr (S.tr R) h
  | s i => exact h
theorem LocA.step {v : List V} {l : List Lc} (R : Rel K p H σ α A) (S : Step p H σ α A p' H' σ α' A') (h : LocA K p H σ v l) : LocA K p' H' σ v l := by
  induction h with
  | nil => exact .nil
  | cons h _ ih => exact .cons (LocR.step R S h) ih
theorem join_of {i : Nat} {v : V} (h : σ[i]? = some (some v)) : (σ[i]?).join = some v := by rw [h]; rfl
theorem res_vz {v : V} {l : Lc} {x : Da} (R : Rel K p H σ α A) (h : LocR K p H σ v l) (e : res α l = some x) : Vz K p H v x := by
  cases l with
  | d y => cases e; exact .of h
  | s i =>
    have h' : σ[i]? = some (some v) := h
    simp only [res, Option.bind_eq_some_iff] at e
    obtain ⟨r, q, e⟩ := e
    have z := R.sl i r q
    rw [join_of h'] at z
    cases r with
    | d y =>
      cases e
      obtain ⟨_, w, e1, e2⟩ := z
      cases e1
      exact .of e2
    | r fx lk y =>
      cases e
      obtain ⟨a, e1, _, e2⟩ := z
      cases e1
      exact .top e2.lock
    | _ => cases e
theorem resA_vz {vs : List V} {ls : List Lc} (R : Rel K p H σ α A) (h : LocA K p H σ vs ls) : ∀ {xs : List Da}, resA α ls = some xs → VzA K p H vs xs := by
  induction h with
  | nil => intro xs e; cases e; exact .nil
  | cons h _ ih =>
    intro xs e
    simp only [resA, Option.bind_eq_some_iff] at e
    obtain ⟨x, e1, ys, e2, e3⟩ := e
    cases e3
    exact .cons (res_vz R h e1) (ih e2)
def eC (x : Da) : ME := fun α => some (.d x, α)
def eV (i : Nat) : ME := fun α => match α[i]? with
  | some .un => none
  | none => none
  | _ => some (.s i, α)
theorem ref_int {i : Int} : RefE K (tC (.int i)) (eC (.int i)) := ⟨fun p H σ α A l α' Q R e h => by cases e; exact h p H A _ R .refl (.int i)⟩
theorem ref_bl {b : Bool} : RefE K (tC (.bl b)) (eC (.bool b)) := ⟨fun p H σ α A l α' Q R e h => by cases e; exact h p H A _ R .refl (.bl b)⟩
theorem ref_non : RefE K (tC .non) (eC .none) := ⟨fun p H σ α A l α' Q R e h => by cases e; exact h p H A _ R .refl .non⟩
theorem ref_str {x : Str} (hx : x.length ≤ SLIM) : RefE K (tC (.str x)) (eC (.str x)) := ⟨fun p H σ α A l α' Q R e h => by cases e; exact h p H A _ R .refl (.str x hx)⟩
theorem Rel.has (R : Rel K p H σ α A) {i : Nat} {r : AV} (h : α[i]? = some r) (n : r ≠ .un) : ∃ v, σ[i]? = some (some v) := by
  have hi := R.lt h
  have z := R.sl i r h
  rw [List.getElem?_eq_getElem hi] at z ⊢
  have : ∃ v, σ[i] = some v := by
    cases r with
    | un => exact (n rfl).elim
    | d x => obtain ⟨_, v, e, _⟩ := z; exact ⟨v, e⟩
    | r f l x => obtain ⟨a, e, _⟩ := z; exact ⟨.ref a, e⟩
    | n f l x => obtain ⟨a, _, e, _⟩ := z; exact ⟨.ref a, e⟩
    | sc ns => obtain ⟨_, a, e, _⟩ := z; exact ⟨.ref a, e⟩
    | g φ => obtain ⟨_, a, e, _⟩ := z; exact ⟨.ref a, e⟩
  obtain ⟨v, e⟩ := this
  exact ⟨v, by rw [e]⟩
theorem ref_var {i : Nat} : RefE K (tVar i) (eV i) := ⟨fun p H σ α A l α' Q R e h => by
  unfold eV at e
  have key : ∀ r, α[i]? = some r → r ≠ .un → some (Lc.s i, α) = some (l, α') → tVar i σ H Q := fun r q n e => by
    cases e
    obtain ⟨v, hv⟩ := R.has q n
    exact ⟨v, hv, h p H A v R .refl hv⟩
  split at e
  · cases e
  · cases e
  · rename_i n1 n2
    cases q : α[i]? with
    | none => exact (n2 q).elim
    | some r => exact key r q (fun z => by subst z; exact n1 q) e⟩
def RefR2 (K : PySem.W.Frag) (r : R2) (f : Da → Da → Option Da) : Prop :=
  ∀ p H x y a b c Q, (∀ a ∈ p, H a ≠ none) → Vz K p H x a → Vz K p H y b → f a b = some c → (∀ v H', Same H H' → Dz K p H' v c → Q v H') → r x y H Q
def RefR1 (K : PySem.W.Frag) (r : V → Hp → VK → Prop) (f : Da → Option Da) : Prop :=
  ∀ p H x a c Q, (∀ a ∈ p, H a ≠ none) → Vz K p H x a → f a = some c → (∀ v H', Same H H' → Dz K p H' v c → Q v H') → r x H Q
def RefRA (K : PySem.W.Frag) (r : List V → Hp → VK → Prop) (f : List Da → Option Da) : Prop :=
  ∀ p H xs as c Q, (∀ a ∈ p, H a ≠ none) → VzA K p H xs as → f as = some c → (∀ v H', Same H H' → Dz K p H' v c → Q v H') → r xs H Q
def eOp (f : Da → Da → Option Da) (ma mb : ME) : ME := fun α =>
  (ma α).bind fun x => (mb x.2).bind fun y => (res y.2 x.1).bind fun a => (res y.2 y.1).bind fun b => (f a b).bind fun c => some (.d c, y.2)
def eUn (f : Da → Option Da) (ma : ME) : ME := fun α => (ma α).bind fun x => (res x.2 x.1).bind fun a => (f a).bind fun c => some (.d c, x.2)
def eCB (f : List Da → Option Da) (ma : MA) : ME := fun α => (ma α).bind fun x => (resA x.2 x.1).bind fun a => (f a).bind fun c => some (.d c, x.2)
theorem ref_op {r : R2} {f : Da → Da → Option Da} {ta tb : TE} {ma mb : ME} (hr : RefR2 K r f) (ha : RefE K ta ma) (hb : RefE K tb mb) : RefE K (tOp r ta tb) (eOp f ma mb) :=
  ⟨fun p H σ α A l α' Q R e h => by
    simp only [eOp, Option.bind_eq_some_iff] at e
    obtain ⟨⟨l1, α1⟩, e1, ⟨l2, α2⟩, e2, a, e3, b, e4, c, e5, e6⟩ := e
    cases e6
    refine ha.go p H σ α A l1 α1 _ R e1 fun p1 H1 A1 v R1 S1 q1 => ?_
    refine hb.go p1 H1 σ α1 A1 l2 α2 _ R1 e2 fun p2 H2 A2 w R2 S2 q2 => ?_
    refine hr p2 H2 v w a b c _ R2.al (res_vz R2 (q1.step R1 S2) e3) (res_vz R2 q2 e4) e5 fun z H3 s q => ?_
    exact h p2 H3 A2 z (R2.same s) ((S1.trans R S2).trans R (.same s)) q⟩
theorem ref_un {r : V → Hp → VK → Prop} {f : Da → Option Da} {ta : TE} {ma : ME} (hr : RefR1 K r f) (ha : RefE K ta ma) : RefE K (tUn r ta) (eUn f ma) :=
  ⟨fun p H σ α A l α' Q R e h => by
    simp only [eUn, Option.bind_eq_some_iff] at e
    obtain ⟨⟨l1, α1⟩, e1, a, e3, c, e5, e6⟩ := e
    cases e6
    refine ha.go p H σ α A l1 α1 _ R e1 fun p1 H1 A1 v R1 S1 q1 => ?_
    refine hr p1 H1 v a c _ R1.al (res_vz R1 q1 e3) e5 fun z H3 s q => ?_
    exact h p1 H3 A1 z (R1.same s) (S1.trans R (.same s)) q⟩
theorem ref_cb {r : List V → Hp → VK → Prop} {f : List Da → Option Da} {ta : TA} {ma : MA} (hr : RefRA K r f) (ha : RefA K ta ma) : RefE K (tCB r ta) (eCB f ma) :=
  ⟨fun p H σ α A l α' Q R e h => by
    simp only [eCB, Option.bind_eq_some_iff] at e
    obtain ⟨⟨l1, α1⟩, e1, a, e3, c, e5, e6⟩ := e
    cases e6
    refine ha.go p H σ α A l1 α1 _ R e1 fun p1 H1 A1 v R1 S1 q1 => ?_
    refine hr p1 H1 v a c _ R1.al (resA_vz R1 q1 e3) e5 fun z H3 s q => ?_
    exact h p1 H3 A1 z (R1.same s) (S1.trans R (.same s)) q⟩
def aNil : MA := fun α => some ([], α)
def aCons (ma : ME) (mr : MA) : MA := fun α => (ma α).bind fun x => (mr x.2).bind fun y => some (x.1 :: y.1, y.2)
theorem ref_nil : RefA K tNil aNil := ⟨fun p H σ α A l α' Q R e h => by cases e; exact h p H A [] R .refl .nil⟩
theorem ref_cons {ta : TE} {tr : TA} {ma : ME} {mr : MA} (ha : RefE K ta ma) (hr : RefA K tr mr) : RefA K (tCons ta tr) (aCons ma mr) :=
  ⟨fun p H σ α A l α' Q R e h => by
    simp only [aCons, Option.bind_eq_some_iff] at e
    obtain ⟨⟨l1, α1⟩, e1, ⟨l2, α2⟩, e2, e6⟩ := e
    cases e6
    refine ha.go p H σ α A l1 α1 _ R e1 fun p1 H1 A1 v R1 S1 q1 => ?_
    refine hr.go p1 H1 σ α1 A1 l2 α2 _ R1 e2 fun p2 H2 A2 w R2 S2 q2 => ?_
    exact h p2 H2 A2 (v :: w) R2 (S1.trans R S2) (.cons (LocR.step R1 S2 q1) q2)⟩
def own (α : AS) : Lc → Option Da
  | .d x => some x
  | .s i => (α[i]?).bind AV.get
def ownA (α : AS) : List Lc → Option (List Da)
  | [] => some []
  | l :: r => (own α l).bind fun x => (ownA α r).bind fun xs => some (x :: xs)
theorem own_dz {v : V} {l : Lc} {x : Da} (R : Rel K p H σ α A) (h : LocR K p H σ v l) (e : own α l = some x) : Dz K p H v x := by
  cases l with
  | d y => cases e; exact h
  | s i =>
    have h' : σ[i]? = some (some v) := h
    simp only [own, Option.bind_eq_some_iff] at e
    obtain ⟨r, q, e⟩ := e
    have z := R.sl i r q
    rw [join_of h'] at z
    cases r <;> first | cases e | skip
    obtain ⟨_, w, e1, e2⟩ := z
    cases e1
    exact e2
theorem vz_bl {v : V} {b : Bool} (h : Vz K p H v (.bool b)) : v = .bl b := by
  cases h with
  | of h => cases h; rfl
  | top h => exact h.elim
theorem vz_int {v : V} {i : Int} (h : Vz K p H v (.int i)) : v = .int i := by
  cases h with
  | of h => cases h; rfl
  | top h => exact h.elim
theorem vz_str {v : V} {z : Str} (h : Vz K p H v (.str z)) : v = .str z ∧ z.length ≤ SLIM := by
  cases h with
  | of h => cases h; exact ⟨rfl, by assumption⟩
  | top h => exact h.elim
theorem vz_non {v : V} (h : Vz K p H v .none) : v = .non := by
  cases h with
  | of h => cases h; rfl
  | top h => exact h.elim
theorem vz_lst {v : V} {ds : List Da} (h : Vz K p H v (.list ds)) : ∃ a vs, v = .ref a ∧ H a = some (.lst vs) ∧ vs.length ≤ LIM ∧ DzA K p H vs ds := by
  cases h with
  | of h => cases h with
    | lst n r l q => exact ⟨_, _, rfl, r, l, q⟩
  | top h => obtain ⟨vs, h1, h2, h3⟩ := h; exact ⟨_, vs, rfl, h1, h2, h3⟩
theorem vz_tup {v : V} {ds : List Da} (h : Vz K p H v (.tuple ds)) : ∃ a vs, v = .ref a ∧ H a = some (.tup vs) ∧ vs.length ≤ LIM ∧ DzA K p H vs ds := by
  cases h with
  | of h => cases h with
    | tup r l q => exact ⟨_, _, rfl, r, l, q⟩
  | top h => exact h.elim
theorem vz_dk {v : V} {ds : List (Key × Da)} (h : Vz K p H v (.dk ds)) : ∃ a xs, v = .ref a ∧ Rd H a (.dK xs) ∧ xs.length ≤ LIM ∧ DzK K p H xs ds := by
  cases h with
  | of h => cases h with
    | dk n r l q => exact ⟨_, _, rfl, r, l, q⟩
  | top h => obtain ⟨vs, h1, h2, h3⟩ := h; exact ⟨_, vs, rfl, h1.rd, h2, h3⟩
theorem vz_dt {v : V} {ds : List (List Key × Da)} (h : Vz K p H v (.dt ds)) : ∃ a xs, v = .ref a ∧ Rd H a (.dT xs) ∧ xs.length ≤ LIM ∧ DzT K p H xs ds := by
  cases h with
  | of h => cases h with
    | dt n r l q => exact ⟨_, _, rfl, r, l, q⟩
  | top h => obtain ⟨vs, h1, h2, h3⟩ := h; exact ⟨_, vs, rfl, h1.rd, h2, h3⟩
theorem ownA_dz {vs : List V} {ls : List Lc} (R : Rel K p H σ α A) (h : LocA K p H σ vs ls) : ∀ {xs : List Da}, ownA α ls = some xs → DzA K p H vs xs := by
  induction h with
  | nil => intro xs e; cases e; exact .nil
  | cons h _ ih =>
    intro xs e
    simp only [ownA, Option.bind_eq_some_iff] at e
    obtain ⟨x, e1, ys, e2, e3⟩ := e
    cases e3
    exact .cons (own_dz R h e1) (ih e2)
theorem line_of {n : Nat} (h : n ≤ LIM) : n ≤ sizeLine := Nat.le_trans h (by rw [sizeLine_eq]; decide)
theorem line_lt {n : Nat} (h : n ≤ LIM) : n < sizeLine := Nat.lt_of_le_of_lt h (by rw [sizeLine_eq]; decide)
def eTup (ma : MA) : ME := fun α => (ma α).bind fun x => (ownA x.2 x.1).bind fun xs => if xs.length ≤ LIM then some (.d (.tuple xs), x.2) else none
theorem ref_tup {ta : TA} {ma : MA} (ha : RefA K ta ma) : RefE K (tTup ta) (eTup ma) :=
  ⟨fun p H σ α A l α' Q R e h => by
    simp only [eTup, Option.bind_eq_some_iff] at e
    obtain ⟨⟨l1, α1⟩, e1, xs, e2, e3⟩ := e
    split at e3
    · rename_i hl
      cases e3
      refine ha.go p H σ α A l1 α1 _ R e1 fun p1 H1 A1 v R1 S1 q1 => ?_
      have z := ownA_dz R1 q1 e2
      have hv : v.length ≤ LIM := by rw [z.length]; exact hl
      refine ⟨line_of hv, fun a ha => ?_⟩
      have s := same_new (o := .tup v) ha
      exact h p1 _ A1 _ (R1.same s) (S1.trans R (.same s)) (.tup upd_same hv (z.tr (tr_same s)))
    · cases e3⟩
theorem not_in_of_none {a : Addr} (R : Rel K p H σ α A) (h : H a = none) : a ∉ p := fun m => R.al a m h
def tOfE (ma : ME) : MT := fun α => (ma α).bind fun x => (res x.2 x.1).bind fun a => match a with
  | .bool b => some (b, x.2)
  | _ => none
theorem ref_test {ta : TE} {ma : ME} (ha : RefE K ta ma) : RefT K (tTest ta) (tOfE ma) :=
  ⟨fun p H σ α A l α' Q R e h => by
    simp only [tOfE, Option.bind_eq_some_iff] at e
    obtain ⟨⟨l1, α1⟩, e1, a, e2, e3⟩ := e
    split at e3
    · cases e3
      refine ha.go p H σ α A l1 α1 _ R e1 fun p1 H1 A1 v R1 S1 q1 => ?_
      have z := vz_bl (res_vz R1 q1 e2)
      subst z
      exact ⟨_, rfl, h p1 H1 A1 R1 S1⟩
    · cases e3⟩
theorem ref_tB {ta : TE} {ma : ME} (ha : RefE K ta ma) : RefT K (tB ta) (tOfE ma) := ⟨fun p H σ α A l α' Q R e h => (ref_test ha).go p H σ α A l α' Q R e h⟩
def mNot (m : MT) : MT := fun α => (m α).bind fun x => some (!x.1, x.2)
def mAnd (m n : MT) : MT := fun α => (m α).bind fun x => if x.1 = true then n x.2 else some (false, x.2)
def mOr (m n : MT) : MT := fun α => (m α).bind fun x => if x.1 = true then some (true, x.2) else n x.2
theorem ref_not {t : TT} {m : MT} (h : RefT K t m) : RefT K (tNot t) (mNot m) :=
  ⟨fun p H σ α A b α' Q R e q => by
    simp only [mNot, Option.bind_eq_some_iff] at e
    obtain ⟨⟨c, α1⟩, e1, e2⟩ := e
    cases e2
    exact h.go p H σ α A c _ _ R e1 fun p1 H1 A1 R1 S1 => q p1 H1 A1 R1 S1⟩
theorem ref_and {t u : TT} {m n : MT} (h : RefT K t m) (g : RefT K u n) : RefT K (tAnd t u) (mAnd m n) :=
  ⟨fun p H σ α A b α' Q R e q => by
    simp only [mAnd, Option.bind_eq_some_iff] at e
    obtain ⟨⟨c, α1⟩, e1, e2⟩ := e
    refine h.go p H σ α A c α1 _ R e1 fun p1 H1 A1 R1 S1 => ?_
    cases c with
    | true =>
      refine iteT ?_
      exact g.go p1 H1 σ α1 A1 b α' _ R1 e2 fun p2 H2 A2 R2 S2 => q p2 H2 A2 R2 (S1.trans R S2)
    | false =>
      simp at e2
      obtain ⟨rfl, rfl⟩ := e2
      exact iteF (q p1 H1 A1 R1 S1)⟩
theorem ref_or {t u : TT} {m n : MT} (h : RefT K t m) (g : RefT K u n) : RefT K (tOr t u) (mOr m n) :=
  ⟨fun p H σ α A b α' Q R e q => by
    simp only [mOr, Option.bind_eq_some_iff] at e
    obtain ⟨⟨c, α1⟩, e1, e2⟩ := e
    refine h.go p H σ α A c α1 _ R e1 fun p1 H1 A1 R1 S1 => ?_
    cases c with
    | true =>
      simp at e2
      obtain ⟨rfl, rfl⟩ := e2
      exact iteT (q p1 H1 A1 R1 S1)
    | false =>
      refine iteF ?_
      exact g.go p1 H1 σ α1 A1 b α' _ R1 (by simpa using e2) fun p2 H2 A2 R2 S2 => q p2 H2 A2 R2 (S1.trans R S2)⟩
def eAnd (ma mb : ME) : ME := fun α => (tOfE ma α).bind fun x => if x.1 = true then mb x.2 else some (.d (.bool false), x.2)
def eNot (ma : ME) : ME := fun α => (tOfE ma α).bind fun x => some (.d (.bool !x.1), x.2)
theorem ref_andV {ta tb : TE} {ma mb : ME} (ha : RefE K ta ma) (hb : RefE K tb mb) : RefE K (tAndV ta tb) (eAnd ma mb) :=
  ⟨fun p H σ α A l α' Q R e q => by
    simp only [eAnd, Option.bind_eq_some_iff] at e
    obtain ⟨⟨c, α1⟩, e1, e2⟩ := e
    refine (ref_test ha).go p H σ α A c α1 (fun k H1 => if k = true then tb σ H1 Q else Q (.bl false) H1) R e1 fun p1 H1 A1 R1 S1 => ?_
    cases c with
    | true => exact iteT (hb.go p1 H1 σ α1 A1 l α' _ R1 e2 fun p2 H2 A2 v R2 S2 z => q p2 H2 A2 v R2 (S1.trans R S2) z)
    | false =>
      simp at e2
      obtain ⟨rfl, rfl⟩ := e2
      exact iteF (q p1 H1 A1 _ R1 S1 (.bl false))⟩
theorem ref_notV {ta : TE} {ma : ME} (ha : RefE K ta ma) : RefE K (tNotV ta) (eNot ma) :=
  ⟨fun p H σ α A l α' Q R e q => by
    simp only [eNot, Option.bind_eq_some_iff] at e
    obtain ⟨⟨c, α1⟩, e1, e2⟩ := e
    cases e2
    exact (ref_test ha).go p H σ α A c _ (fun k H1 => Q (.bl (!k)) H1) R e1 fun p1 H1 A1 R1 S1 => q p1 H1 A1 _ R1 S1 (.bl _)⟩
def eChain (f g : Da → Da → Option Da) (ma mb mc : ME) : ME := fun α =>
  (ma α).bind fun x => (mb x.2).bind fun y => (res y.2 x.1).bind fun a => (res y.2 y.1).bind fun b => (f a b).bind fun z => match z with
    | .bool true => (mc y.2).bind fun u => (res u.2 y.1).bind fun b' => (res u.2 u.1).bind fun c => (g b' c).bind fun k => some (.d k, u.2)
    | .bool false => some (.d (.bool false), y.2)
    | _ => none
theorem ref_chain {r r' : R2} {f g : Da → Da → Option Da} {ta tb tc : TE} {ma mb mc : ME} (hr : RefR2 K r f) (hr' : RefR2 K r' g) (ha : RefE K ta ma) (hb : RefE K tb mb) (hc : RefE K tc mc) :
    RefE K (tChain r r' ta tb tc) (eChain f g ma mb mc) :=
  ⟨fun p H σ α A l α' Q R e h => by
    simp only [eChain, Option.bind_eq_some_iff] at e
    obtain ⟨⟨l1, α1⟩, e1, ⟨l2, α2⟩, e2, a, e3, b, e4, z, e5, e6⟩ := e
    refine ha.go p H σ α A l1 α1 _ R e1 fun p1 H1 A1 v R1 S1 q1 => ?_
    refine hb.go p1 H1 σ α1 A1 l2 α2 _ R1 e2 fun p2 H2 A2 w R2 S2 q2 => ?_
    refine hr p2 H2 v w a b z _ R2.al (res_vz R2 (q1.step R1 S2) e3) (res_vz R2 q2 e4) e5 fun y H3 s q => ?_
    have R3 := R2.same s
    have S3 : Step p2 H2 σ α2 A2 p2 H3 σ α2 A2 := .same s
    split at e6
    · cases q
      simp only [Option.bind_eq_some_iff] at e6
      obtain ⟨⟨l3, α3⟩, e7, b', e8, c, e9, k, e10, e11⟩ := e6
      cases e11
      refine ⟨true, rfl, iteT ?_⟩
      refine hc.go p2 H3 σ α2 A2 l3 α3 _ R3 e7 fun p4 H4 A4 u R4 S4 q4 => ?_
      refine hr' p4 H4 w u b' c k _ R4.al (res_vz R4 ((q2.step R2 S3).step R3 S4) e8) (res_vz R4 q4 e9) e10 fun y H5 s5 q5 => ?_
      exact h p4 H5 A4 y (R4.same s5) (((S1.trans R S2).trans R S3).trans R (S4.trans R3 (.same s5))) q5
    · cases q
      cases e6
      exact ⟨false, rfl, iteF (h p2 H3 A2 _ R3 ((S1.trans R S2).trans R S3) (.bl false))⟩
    · cases e6⟩
end
end Vm
namespace Vm
open PySem PySem.Spec PyProof.Rows L2 Gk
abbrev MG := Da → AS → Option AS
abbrev MGs := List Da → AS → Option AS
structure RefG (K : PySem.W.Frag) (g : TG) (m : MG) : Prop where
  go : ∀ p H σ α A v x α' Q, Rel K p H σ α A → Dz K p H v x → m x α = some α' →
    (∀ p' H' σ' A', Rel K p' H' σ' α' A' → Step p H σ α A p' H' σ' α' A' → Q σ' H') → g v σ H Q
structure RefGs (K : PySem.W.Frag) (g : TGs) (m : MGs) : Prop where
  go : ∀ p H σ α A v x α' Q, Rel K p H σ α A → DzA K p H v x → m x α = some α' →
    (∀ p' H' σ' A', Rel K p' H' σ' α' A' → Step p H σ α A p' H' σ' α' A' → Q σ' H') → g v σ H Q
/-- slot i holds x from now on -/
def setD (i : Nat) (x : Da) (α : AS) : Option AS := match α[i]? with
  | some r => if r.isFix = true then none else some (α.set i (.d x))
  | none => none
section
variable {K : PySem.W.Frag} {p p' p2 : List Addr} {H H' H2 : Hp} {σ σ' σ2 : L2.St} {α α' α2 α0 : AS} {A A' A2 : FT}
theorem setD_some {i : Nat} {x : Da} (h : setD i x α = some α') : ∃ r, α[i]? = some r ∧ r.isFix = false ∧ α' = α.set i (.d x) := by
  unfold setD at h
  split at h
  · rename_i r e
    split at h
    · cases h
    · rename_i n
      cases h
      exact ⟨r, e, by simpa using n, rfl⟩
  · cases h
theorem rel_setD {i : Nat} {v : V} {x : Da} {r : AV} (R : Rel K p H σ α A) (d : Dz K p H v x) (hi : α[i]? = some r) (hf : r.isFix = false) :
    Rel K p H (σ.set i (some v)) (α.set i (.d x)) (setF A i []) ∧ Step p H σ α A p H (σ.set i (some v)) (α.set i (.d x)) (setF A i []) :=
  ⟨rel_put R hi ⟨rfl, v, rfl, d⟩ .nil (fun _ m => (List.not_mem_nil m).elim) (fun _ m => (List.not_mem_nil m).elim), step_put R hi hf rfl (fun _ m => (List.not_mem_nil m).elim)⟩
theorem ref_gName {i : Nat} : RefG K (gName i) (setD i) := ⟨fun p H σ α A v x α' Q R d e h => by
  obtain ⟨r, e1, e2, rfl⟩ := setD_some e
  have ⟨a, b⟩ := rel_setD R d e1 e2
  exact h p H _ _ a b⟩
def gsNil : MGs := fun xs α => match xs with
  | [] => some α
  | _ => none
def gsCons (m : MG) (r : MGs) : MGs := fun xs α => match xs with
  | x :: ys => (m x α).bind fun β => r ys β
  | [] => none
def gTupD (n : Nat) (m : MGs) : MG := fun x α => match x with
  | .tuple xs => if xs.length = n then m xs α else none
  | _ => none
theorem ref_gNil : RefGs K gNil gsNil := ⟨fun p H σ α A v x α' Q R d e h => by
  cases d with
  | nil => cases e; exact ⟨rfl, h p H σ A R .refl⟩
  | cons _ _ => cases e⟩
theorem ref_gCons {g : TG} {u : TGs} {m : MG} {r : MGs} (hg : RefG K g m) (hu : RefGs K u r) : RefGs K (gCons g u) (gsCons m r) := ⟨fun p H σ α A v x α' Q R d e h => by
  cases d with
  | nil => cases e
  | cons d1 d2 =>
    simp only [gsCons, Option.bind_eq_some_iff] at e
    obtain ⟨β, e1, e2⟩ := e
    refine ⟨_, _, rfl, hg.go p H σ α A _ _ β _ R d1 e1 fun p1 H1 σ1 A1 R1 S1 => ?_⟩
    exact hu.go p1 H1 σ1 β A1 _ _ α' _ R1 (d2.tr (S1.tr R)) e2 fun p2 H2 σ2 A2 R2 S2 => h p2 H2 σ2 A2 R2 (S1.trans R S2)⟩
theorem ref_gTup {n : Nat} {u : TGs} {r : MGs} (hu : RefGs K u r) : RefG K (gTup K n u) (gTupD n r) := ⟨fun p H σ α A v x α' Q R d e h => by
  unfold gTupD at e
  split at e
  · split at e
    · rename_i hn
      cases d with
      | tup hs hl ds =>
        exact ⟨_, _, rfl, .of hs, by rw [ds.length]; exact hn, hu.go p H σ α A _ _ α' _ R ds e h⟩
    · cases e
  · cases e⟩
def AV.lock : AV → AV
  | .r _ _ x => .r true true x
  | .n _ _ x => .n true true x
  | q => q
def lockA (α : AS) (is : List Nat) : AS := α.mapIdx fun i r => if i ∈ is then r.lock else r
def freeA (α0 α : AS) (is : List Nat) : AS := α.mapIdx fun i r => if i ∈ is then (α0[i]?).getD r else r
theorem lockA_get {is : List Nat} {i : Nat} : (lockA α is)[i]? = (α[i]?).map fun r => if i ∈ is then r.lock else r := by
  unfold lockA
  rw [List.getElem?_mapIdx]
theorem freeA_get {is : List Nat} {i : Nat} : (freeA α0 α is)[i]? = (α[i]?).map fun r => if i ∈ is then (α0[i]?).getD r else r := by
  unfold freeA
  rw [List.getElem?_mapIdx]
theorem lockA_nil : lockA α [] = α := by
  apply List.ext_getElem?
  intro i
  rw [lockA_get]
  cases α[i]? <;> simp
theorem freeA_nil : freeA α0 α [] = α := by
  apply List.ext_getElem?
  intro i
  rw [freeA_get]
  cases α[i]? <;> simp
theorem slot_lock {o : Option V} {f : List Addr} {r : AV} (h : SlotR K p H o f r) : SlotR K p H o f r.lock := by
  cases r with
  | r a b x => obtain ⟨a, e, rfl, h⟩ := h; exact ⟨a, e, rfl, h.lock⟩
  | n a b x => obtain ⟨a, as, e, rfl, h⟩ := h; exact ⟨a, as, e, rfl, h.lock⟩
  | _ => exact h
theorem rel_lock (R : Rel K p H σ α A) (is : List Nat) : Rel K p H σ (lockA α is) A := by
  refine ⟨by rw [R.len]; simp [lockA], fun i r e => ?_, fun i e => ?_, R.nd, R.dj, R.inp, R.al, R.tb⟩
  · rw [lockA_get] at e
    obtain ⟨q, e1, rfl⟩ := Option.map_eq_some_iff.mp e
    split
    · exact slot_lock (R.sl i q e1)
    · exact R.sl i q e1
  · rw [lockA_get] at e
    exact R.out i (Option.map_eq_none_iff.mp e)
/-- the slots that may be locked: lists of one's own -/
def Lockable (α : AS) (is : List Nat) : Prop := ∀ i ∈ is, ∃ f l xs, α[i]? = some (.r f l (.list xs))
/-- behind the walk -/
theorem rel_free {is : List Nat} (hl : Lockable α0 is) (S : Step p H σ (lockA α0 is) A p' H' σ' α' A') (R : Rel K p' H' σ' α' A') : Rel K p' H' σ' (freeA α0 α' is) A' := by
  refine ⟨by rw [R.len]; simp [freeA], fun i r e => ?_, fun i e => ?_, R.nd, R.dj, R.inp, R.al, R.tb⟩
  · rw [freeA_get] at e
    obtain ⟨q, e1, rfl⟩ := Option.map_eq_some_iff.mp e
    split
    · rename_i hi
      obtain ⟨f, l, xs, e2⟩ := hl i hi
      have e3 : (lockA α0 is)[i]? = some (.r true true (.list xs)) := by rw [lockA_get, e2]; simp [hi, AV.lock]
      obtain ⟨_, r', e4, kin⟩ := S.fix i _ e3 rfl
      have e5 := kin.eq rfl
      rw [e4] at e1
      cases e1
      have z := R.sl i _ e4
      rw [e2]
      subst e5
      obtain ⟨a, h1, h2, h3⟩ := z
      exact ⟨a, h1, h2, h3⟩
    · exact R.sl i q e1
  · rw [freeA_get] at e
    exact R.out i (Option.map_eq_none_iff.mp e)
theorem step_free {is : List Nat} (hl : Lockable α0 is) (S : Step p H σ (lockA α0 is) A p' H' σ' α' A') : Step p H σ α0 A p' H' σ' (freeA α0 α' is) A' := by
  have ll : (lockA α0 is).length = α0.length := by simp [lockA]
  refine ⟨S.keep, S.dom, S.new, S.sub, S.mono, by rw [← ll, ← S.ln]; simp [freeA], fun i r e f => ?_, fun i r e f => ?_⟩
  · by_cases hi : i ∈ is
    · obtain ⟨f', l', xs, e2⟩ := hl i hi
      rw [e] at e2
      cases e2
      have e3 : (lockA α0 is)[i]? = some (.r true true (.list xs)) := by rw [lockA_get, e]; simp [hi, AV.lock]
      obtain ⟨es, r', e4, kin⟩ := S.fix i _ e3 rfl
      refine ⟨es, _, ?_, .refl⟩
      rw [freeA_get, e4, e]
      simp [hi]
    · have e3 : (lockA α0 is)[i]? = some r := by rw [lockA_get, e]; simp [hi]
      obtain ⟨es, r', e4, kin⟩ := S.fix i _ e3 f
      refine ⟨es, r', ?_, kin⟩
      rw [freeA_get, e4]
      simp [hi]
  · rw [freeA_get] at e
    obtain ⟨q, e1, rfl⟩ := Option.map_eq_some_iff.mp e
    by_cases hi : i ∈ is
    · rw [if_pos hi] at f
      obtain ⟨f', l', xs, e2⟩ := hl i hi
      rw [e2] at f
      exact ⟨_, e2, f⟩
    · rw [if_neg hi] at f
      obtain ⟨u, e2, f2⟩ := S.nof i q e1 f
      rw [lockA_get] at e2
      obtain ⟨u', e3, rfl⟩ := Option.map_eq_some_iff.mp e2
      rw [if_neg hi] at f2
      exact ⟨u', e3, f2⟩
end
/-- the items stand as long as the locked slots do -/
structure ItR (K : PySem.W.Frag) (p : List Addr) (H : Hp) (σ : L2.St) (α : AS) (J : It) (xs : List Da) (dep : List Nat) : Prop where
  go : ∀ p1 H1 σ1 α1 A1, Rel K p1 H1 σ1 α1 A1 → Tr p H p1 H1 → (∀ i ∈ dep, σ1[i]? = σ[i]? ∧ α1[i]? = (α[i]?).map AV.lock) →
    (∀ n x, xs[n]? = some x → J.go n H1 ∧ ∀ v H2, J.yld n H1 v H2 → Same H1 H2 ∧ Dz K p1 H2 v x) ∧ J.stop xs.length H1
abbrev MI := AS → Option ((List Da × List Nat) × AS)
structure RefI (K : PySem.W.Frag) (w : TI) (m : MI) : Prop where
  go : ∀ p H σ α A x α' R, Rel K p H σ α A → m α = some (x, α') →
    (∀ p' H' A' J, Rel K p' H' σ α' A' → Step p H σ α A p' H' σ α' A' → ItR K p' H' σ α' J x.1 x.2 → Lockable α' x.2 → R J H') → w σ H R
/-- one of two readings -/
def iOr (w u : TI) : TI := fun σ H R => w σ H R ∨ u σ H R
theorem pi_or {X : Cx} {tg e : Expr} {w u : TI} (a : PI X tg e w) (b : PI X tg e u) : PI X tg e (iOr w u) :=
  ⟨fun pins s σ H R I h => h.elim (a.run pins s σ H R I) (b.run pins s σ H R I)⟩
def iLst (ma : ME) : MI := fun α => (ma α).bind fun l => match l.1 with
  | .d (.list xs) => some ((xs, []), l.2)
  | .d _ => none
  | .s i => match l.2[i]? with
    | some (.d (.list xs)) => some ((xs, []), l.2)
    | some (.r _ _ (.list xs)) => some ((xs, [i]), l.2)
    | _ => none
def iTpl (ma : ME) : MI := fun α => (ma α).bind fun l => (own l.2 l.1).bind fun x => match x with
  | .tuple xs => some ((xs, []), l.2)
  | _ => none
def iRg1 (ma : MA) : MI := fun α => (ma α).bind fun l => (resA l.2 l.1).bind fun x => match x with
  | [.int j] => if -(2 ^ 62) ≤ j ∧ j < 2 ^ 62 then some (((List.range j.toNat).map fun (k : Nat) => Da.int (k : Int), []), l.2) else none
  | _ => none
def iRg2 (ma : MA) : MI := fun α => (ma α).bind fun l => (resA l.2 l.1).bind fun x => match x with
  | [.int i, .int j] => if -(2 ^ 62) ≤ i ∧ i < 2 ^ 62 ∧ -(2 ^ 62) ≤ j ∧ j < 2 ^ 62 then some (((List.range (j - i).toNat).map fun (k : Nat) => Da.int (i + (k : Int)), []), l.2) else none
  | _ => none
section
variable {K : PySem.W.Frag} {p p' p2 : List Addr} {H H' H2 : Hp} {σ σ' σ2 : L2.St} {α α' α2 : AS} {A A' A2 : FT}
theorem lockable_nil : Lockable α [] := fun _ m => (List.not_mem_nil m).elim
theorem list_it {a : Addr} {xs : List Da} {dep : List Nat} (st : ∀ p1 H1 σ1 α1 A1, Rel K p1 H1 σ1 α1 A1 → Tr p H p1 H1 → (∀ i ∈ dep, σ1[i]? = σ[i]? ∧ α1[i]? = (α[i]?).map AV.lock) →
      ∃ vs, H1 a = some (.lst vs) ∧ DzA K p1 H1 vs xs) : ItR K p H σ α (Itl K a) xs dep := ⟨fun p2 H2 σ2 α2 A2 R2 t d2 => by
  obtain ⟨ws, hw, ds⟩ := st p2 H2 σ2 α2 A2 R2 t d2
  refine ⟨fun n x hx => ?_, ws, .of hw, by rw [ds.length]; exact Nat.le_refl _⟩
  obtain ⟨y, hy, dy⟩ := ds.get hx
  refine ⟨⟨ws, y, .of hw, hy⟩, fun v H3 z => ?_⟩
  obtain ⟨rfl, z⟩ := z
  have := z ws (.of hw)
  rw [hy] at this
  cases this
  exact ⟨Same.refl _, dy⟩⟩
theorem ref_iList {tl : TE} {ma : ME} (ha : RefE K tl ma) : RefI K (iList K tl) (iLst ma) := ⟨fun p H σ α A x α' Rr R e h => by
  simp only [iLst, Option.bind_eq_some_iff] at e
  obtain ⟨⟨l, α1⟩, e1, e3⟩ := e
  refine ha.go p H σ α A l α1 _ R e1 fun p1 H1 A1 v R1 S1 q1 => ?_
  have data : ∀ xs, Dz K p1 H1 v (.list xs) → ((xs, ([] : List Nat)), α1) = (x, α') → ∃ a, v = .ref a ∧ (∃ xs, SqL K H1 a xs) ∧ Rr (Itl K a) H1 := fun xs d e => by
    cases e
    cases d with
    | lst n r hl ds =>
      exact ⟨_, rfl, ⟨_, .of r⟩, h p1 H1 A1 _ R1 S1 (list_it fun p2 H2 σ2 α2 A2 R2 t _ => ⟨_, t.ls _ _ n r, ds.tr t⟩) lockable_nil⟩
  cases l with
  | d y =>
    dsimp only at e3
    split at e3
    · rename_i xs z; cases z; exact data xs q1 (Option.some.inj e3)
    · cases e3
    · rename_i z; cases z
  | s i =>
    have q' : σ[i]? = some (some v) := q1
    dsimp only at e3
    split at e3
    · rename_i xs e4
      obtain ⟨_, w, e5, d⟩ := R1.sl i _ e4
      rw [join_of q'] at e5
      cases e5
      exact data xs d (Option.some.inj e3)
    · rename_i f lk xs e4
      obtain ⟨a, e5, e6, vs, d1, d2, d3⟩ := R1.sl i _ e4
      rw [join_of q'] at e5
      cases e5
      cases Option.some.inj e3
      refine ⟨a, rfl, ⟨_, .of d1⟩, h p1 H1 A1 _ R1 S1 (list_it fun p2 H2 σ2 α2 A2 R2 t dp => ?_) fun j m => ?_⟩
      · obtain ⟨e7, e8⟩ := dp i (List.mem_singleton.mpr rfl)
        rw [e4] at e8
        obtain ⟨b, e9, _, ws, w1, w2, w3⟩ := R2.sl i _ e8
        rw [e7, join_of q'] at e9
        cases e9
        exact ⟨ws, w1, w3⟩
      · cases List.mem_singleton.mp m
        exact ⟨_, _, _, e4⟩
    · cases e3⟩
theorem ref_iTup {tl : TE} {ma : ME} (ha : RefE K tl ma) : RefI K (iTup K tl) (iTpl ma) := ⟨fun p H σ α A x α' Rr R e h => by
  simp only [iTpl, Option.bind_eq_some_iff] at e
  obtain ⟨⟨l, α1⟩, e1, y, e2, e3⟩ := e
  split at e3
  · rename_i xs
    cases e3
    refine ha.go p H σ α A l α1 _ R e1 fun p1 H1 A1 v R1 S1 q1 => ?_
    cases own_dz R1 q1 e2 with
    | tup hs hl ds =>
      refine ⟨_, rfl, ⟨_, .of hs⟩, h p1 H1 A1 _ R1 S1 ⟨fun p2 H2 σ2 α2 A2 R2 t d2 => ?_⟩ lockable_nil⟩
      have hs2 := SqT.of (K := K) (t.tp _ _ hs)
      have ds2 := ds.tr t
      refine ⟨fun n x hx => ?_, _, hs2, by rw [ds.length]; exact Nat.le_refl _⟩
      obtain ⟨y, hy, dy⟩ := ds2.get hx
      refine ⟨⟨_, y, hs2, hy⟩, fun v H3 z => ?_⟩
      obtain ⟨rfl, z⟩ := z
      have := z _ hs2
      rw [hy] at this
      cases this
      exact ⟨Same.refl _, dy⟩
  · cases e3⟩
theorem itr_ok {lo : Int} {n : Nat} : ItR K p H σ α (Itr lo n) ((List.range n).map fun (k : Nat) => Da.int (lo + (k : Int))) [] := ⟨fun p1 H1 σ1 α1 A1 R1 t d => by
  refine ⟨fun k x hx => ?_, by simp [Itr]⟩
  rw [List.getElem?_map] at hx
  obtain ⟨j, hj, rfl⟩ := Option.map_eq_some_iff.mp hx
  obtain ⟨hlt, e⟩ := List.getElem?_eq_some_iff.mp hj
  rw [List.getElem_range] at e
  subst e
  rw [List.length_range] at hlt
  refine ⟨hlt, fun v H2 z => ?_⟩
  obtain ⟨rfl, rfl⟩ := z
  exact ⟨Same.refl _, .int _⟩⟩
theorem ref_iRg1 {ta : TA} {ma : MA} (ha : RefA K ta ma) : RefI K (iRng1 ta) (iRg1 ma) := ⟨fun p H σ α A x α' Rr R e h => by
  simp only [iRg1, Option.bind_eq_some_iff] at e
  obtain ⟨⟨l, α1⟩, e1, y, e2, e3⟩ := e
  split at e3
  · rename_i j
    split at e3
    · rename_i hj
      cases e3
      refine ha.go p H σ α A l α1 _ R e1 fun p1 H1 A1 v R1 S1 q1 => ?_
      cases resA_vz R1 q1 e2 with
      | cons h1 h2 =>
        cases h2
        cases vz_int h1
        refine ⟨j, rfl, hj.1, hj.2, h p1 H1 A1 _ R1 S1 ?_ lockable_nil⟩
        have := itr_ok (K := K) (p := p1) (H := H1) (σ := σ) (α := α1) (lo := 0) (n := j.toNat)
        simpa using this
    · cases e3
  · cases e3⟩
theorem ref_iRg2 {ta : TA} {ma : MA} (ha : RefA K ta ma) : RefI K (iRng2 ta) (iRg2 ma) := ⟨fun p H σ α A x α' Rr R e h => by
  simp only [iRg2, Option.bind_eq_some_iff] at e
  obtain ⟨⟨l, α1⟩, e1, y, e2, e3⟩ := e
  split at e3
  · rename_i i j
    split at e3
    · rename_i hj
      cases e3
      refine ha.go p H σ α A l α1 _ R e1 fun p1 H1 A1 v R1 S1 q1 => ?_
      cases resA_vz R1 q1 e2 with
      | cons h1 h2 =>
        cases h2 with
        | cons h2 h3 =>
          cases h3
          cases vz_int h1
          cases vz_int h2
          exact ⟨i, j, rfl, hj, h p1 H1 A1 _ R1 S1 itr_ok lockable_nil⟩
    · cases e3
  · cases e3⟩
end
/-- a new own thing: flat or nested -/
inductive Nw where
  | r (x : Da)
  | n (x : Da)
def Nw.av : Nw → AV
  | .r x => .r false false x
  | .n x => .n false false x
def Nw.da : Nw → Da
  | .r x => x
  | .n x => x
def NewR (K : PySem.W.Frag) (p : List Addr) (H : Hp) (a : Addr) (as : List Addr) : Nw → Prop
  | .r x => as = [] ∧ Top K p H false a x
  | .n x => Nest K p H false a as x
/-- as is new: it stood nowhere, and no slot has it -/
structure Fresh (p' : List Addr) (H : Hp) (A' : FT) (as : List Addr) : Prop where
  inp : ∀ b ∈ as, b ∈ p'
  non : ∀ b ∈ as, H b = none
  noA : ∀ b ∈ as, ∀ i, b ∉ A' i
  nd : as.Nodup
/-- what is handed back: a thing, a new tuple of things, a new own thing -/
inductive RL where
  | one (l : Lc)
  | tup (ls : List Lc)
  | nw (r : Nw)
inductive Out where
  | nx (α : AS)
  | rt (l : RL) (α : AS)
  | bk (α : AS)
  | ct (α : AS)
abbrev MS := AS → Option Out
def RetR (K : PySem.W.Frag) (H0 : Hp) (p : List Addr) (H : Hp) (σ : L2.St) (A : FT) (v : V) : RL → Prop
  | .one l => LocR K p H σ v l
  | .tup ls => ∃ a vs, v = .ref a ∧ H a = some (.tup vs) ∧ vs.length ≤ LIM ∧ LocA K p H σ vs ls
  | .nw r => ∃ a as, v = .ref a ∧ Fresh p H0 A (a :: as) ∧ NewR K p H a as r
def EndsR (K : PySem.W.Frag) (p : List Addr) (H : Hp) (σ : L2.St) (α : AS) (A : FT) (D : Ends) : Out → Prop
  | .nx α' => ∀ p' H' σ' A', Rel K p' H' σ' α' A' → Step p H σ α A p' H' σ' α' A' → D.nx σ' H'
  | .bk α' => ∀ p' H' σ' A', Rel K p' H' σ' α' A' → Step p H σ α A p' H' σ' α' A' → D.bk σ' H'
  | .ct α' => ∀ p' H' σ' A', Rel K p' H' σ' α' A' → Step p H σ α A p' H' σ' α' A' → D.ct σ' H'
  | .rt l α' => ∀ p' H' σ' A' v, Rel K p' H' σ' α' A' → Step p H σ α A p' H' σ' α' A' → RetR K H p' H' σ' A' v l → D.rt v H'
structure RefS (K : PySem.W.Frag) (t : TS) (m : MS) : Prop where
  go : ∀ p H σ α A o D, Rel K p H σ α A → m α = some o → EndsR K p H σ α A D o → t D σ H
section
variable {K : PySem.W.Frag} {p p' p2 : List Addr} {H H' H2 : Hp} {σ σ' σ2 : L2.St} {α α' α2 : AS} {A A' A2 : FT}
theorem RetR.early {H0 H1 : Hp} {v : V} {l : RL} (h : RetR K H1 p H σ A v l) (dom : ∀ b, H1 b = none → H0 b = none) : RetR K H0 p H σ A v l := by
  cases l with
  | one l => exact h
  | tup ls => exact h
  | nw r => obtain ⟨a, as, e, f, n⟩ := h; exact ⟨a, as, e, ⟨f.inp, fun b m => dom b (f.non b m), f.noA, f.nd⟩, n⟩
theorem EndsR.step {D : Ends} {o : Out} (R : Rel K p H σ α A) (S : Step p H σ α A p' H' σ' α' A') (h : EndsR K p H σ α A D o) : EndsR K p' H' σ' α' A' D o := by
  cases o with
  | nx β => exact fun p2 H2 σ2 A2 R2 S2 => h p2 H2 σ2 A2 R2 (S.trans R S2)
  | bk β => exact fun p2 H2 σ2 A2 R2 S2 => h p2 H2 σ2 A2 R2 (S.trans R S2)
  | ct β => exact fun p2 H2 σ2 A2 R2 S2 => h p2 H2 σ2 A2 R2 (S.trans R S2)
  | rt r β =>
    refine fun p2 H2 σ2 A2 v R2 S2 z => h p2 H2 σ2 A2 v R2 (S.trans R S2) ?_
    exact z.early S.dom
def sNext : MS := fun α => some (.nx α)
def sSeq (m n : MS) : MS := fun α => (m α).bind fun o => match o with
  | .nx β => n β
  | o => some o
theorem ref_next : RefS K tNext sNext := ⟨fun p H σ α A o D R e h => by cases e; exact h p H σ A R .refl⟩
theorem ref_seq {t u : TS} {m n : MS} (ht : RefS K t m) (hu : RefS K u n) : RefS K (tSeq t u) (sSeq m n) := ⟨fun p H σ α A o D R e h => by
  simp only [sSeq, Option.bind_eq_some_iff] at e
  obtain ⟨o1, e1, e2⟩ := e
  refine ht.go p H σ α A o1 _ R e1 ?_
  cases o1 with
  | nx β => exact fun p1 H1 σ1 A1 R1 S1 => hu.go p1 H1 σ1 β A1 o D R1 e2 (h.step R S1)
  | bk β => cases e2; exact h
  | ct β => cases e2; exact h
  | rt r β => cases e2; exact h⟩
def sDrop (m : ME) : MS := fun α => (m α).bind fun x => some (.nx x.2)
theorem ref_drop {te : TE} {m : ME} (he : RefE K te m) : RefS K (tDrop te) (sDrop m) := ⟨fun p H σ α A o D R e h => by
  simp only [sDrop, Option.bind_eq_some_iff] at e
  obtain ⟨⟨l, α1⟩, e1, e2⟩ := e
  cases e2
  exact he.go p H σ α A l α1 _ R e1 fun p1 H1 A1 v R1 S1 _ => h p1 H1 σ A1 R1 S1⟩
def sRet (m : ME) : MS := fun α => (m α).bind fun x => some (.rt (.one x.1) x.2)
theorem ref_ret {te : TE} {m : ME} (he : RefE K te m) : RefS K (tRet te) (sRet m) := ⟨fun p H σ α A o D R e h => by
  simp only [sRet, Option.bind_eq_some_iff] at e
  obtain ⟨⟨l, α1⟩, e1, e2⟩ := e
  cases e2
  exact he.go p H σ α A l α1 _ R e1 fun p1 H1 A1 v R1 S1 q => h p1 H1 σ A1 v R1 S1 q⟩
theorem LocA.length {vs : List V} {ls : List Lc} (h : LocA K p H σ vs ls) : vs.length = ls.length := Paired.length h
theorem LocR.same {v : V} {l : Lc} (s : Same H H') (h : LocR K p H σ v l) : LocR K p H' σ v l := by
  cases l with
  | d x => exact Dz.tr (tr_same s) h
  | s i => exact h
theorem LocA.same {vs : List V} {ls : List Lc} (s : Same H H') (h : LocA K p H σ vs ls) : LocA K p H' σ vs ls := by
  induction h with
  | nil => exact .nil
  | cons h _ ih => exact .cons (LocR.same s h) ih
def sIf (c : MT) (m n : MS) : MS := fun α => (c α).bind fun x => if x.1 = true then m x.2 else n x.2
theorem ref_ifS {c : TT} {t u : TS} {mc : MT} {m n : MS} (hc : RefT K c mc) (ht : RefS K t m) (hu : RefS K u n) : RefS K (tIfS c t u) (sIf mc m n) := ⟨fun p H σ α A o D R e h => by
  simp only [sIf, Option.bind_eq_some_iff] at e
  obtain ⟨⟨b, α1⟩, e1, e2⟩ := e
  refine hc.go p H σ α A b α1 _ R e1 fun p1 H1 A1 R1 S1 => ?_
  cases b with
  | true => exact iteT (ht.go p1 H1 σ α1 A1 o D R1 e2 (h.step R S1))
  | false => exact iteF (hu.go p1 H1 σ α1 A1 o D R1 (by simpa using e2) (h.step R S1))⟩
/-- x = e, x a name for data -/
def sAsg (m : ME) (g : MG) : MS := fun α => (m α).bind fun x => (own x.2 x.1).bind fun y => (g y x.2).bind fun β => some (.nx β)
theorem ref_asg {te : TE} {g : TG} {m : ME} {mg : MG} (he : RefE K te m) (hg : RefG K g mg) : RefS K (tAsg te g) (sAsg m mg) := ⟨fun p H σ α A o D R e h => by
  simp only [sAsg, Option.bind_eq_some_iff] at e
  obtain ⟨⟨l, α1⟩, e1, y, e2, β, e3, e4⟩ := e
  cases e4
  refine he.go p H σ α A l α1 _ R e1 fun p1 H1 A1 v R1 S1 q => ?_
  exact hg.go p1 H1 σ α1 A1 v y β _ R1 (own_dz R1 q e2) e3 fun p2 H2 σ2 A2 R2 S2 => h p2 H2 σ2 A2 R2 (S1.trans R S2)⟩
def forL (g : MG) (b : MS) : List Da → AS → Option Out
  | [], α => some (.nx α)
  | x :: xs, α => (g x α).bind fun α1 => (b α1).bind fun o => match o with
    | .nx α2 => forL g b xs α2
    | .ct α2 => forL g b xs α2
    | .bk α2 => some (.bk α2)
    | .rt r α2 => some (.rt r α2)
/-- the loop's end, its slots free again -/
def Out.freed (α0 : AS) (is : List Nat) : Out → Out
  | .nx α => .nx (freeA α0 α is)
  | .bk α => .nx (freeA α0 α is)
  | .ct α => .nx (freeA α0 α is)
  | .rt r α => .rt r (freeA α0 α is)
def sForD (i : MI) (g : MG) (b : MS) : MS := fun α => (i α).bind fun x => (forL g b x.1.1 (lockA x.2 x.1.2)).bind fun o => some (o.freed x.2 x.1.2)
/-- the loop, from the i-th turn on -/
def ForW (K : PySem.W.Frag) (p0 : List Addr) (H0 : Hp) (σ0 : L2.St) (α0 : AS) (A0 : FT) (g : MG) (b : MS) (xs : List Da) (o : Out) (i m : Nat) (σ : L2.St) (H : Hp) : Prop :=
  m = xs.length - i ∧ i ≤ xs.length ∧ ∃ p α A, Rel K p H σ α A ∧ Step p0 H0 σ0 α0 A0 p H σ α A ∧ forL g b (xs.drop i) α = some o
theorem dep_of {dep : List Nat} {α0 : AS} (hd : Lockable α0 dep) (S : Step p H σ (lockA α0 dep) A p' H' σ' α' A') : ∀ i ∈ dep, σ'[i]? = σ[i]? ∧ α'[i]? = (α0[i]?).map AV.lock := fun i hi => by
  obtain ⟨f, l, xs, e2⟩ := hd i hi
  have e3 : (lockA α0 dep)[i]? = some (.r true true (.list xs)) := by rw [lockA_get, e2]; simp [hi, AV.lock]
  obtain ⟨es, r', e4, kin⟩ := S.fix i _ e3 rfl
  refine ⟨es, ?_⟩
  rw [e4, kin.eq rfl, e2]
  rfl
theorem ref_for {w : TI} {g : TG} {tb : TS} {mi : MI} {mg : MG} {mb : MS} (hi : RefI K w mi) (hg : RefG K g mg) (hb : RefS K tb mb) : RefS K (tFor w g tb) (sForD mi mg mb) := ⟨fun p H σ α A o D R e h => by
  simp only [sForD, Option.bind_eq_some_iff] at e
  obtain ⟨⟨⟨xs, dep⟩, α1⟩, e1, o1, e2, e3⟩ := e
  cases e3
  refine hi.go p H σ α A (xs, dep) α1 _ R e1 fun p1 H1 A1 J R1 S1 it lkb => ?_
  have RL := rel_lock R1 dep
  refine ⟨ForW K p1 H1 σ (lockA α1 dep) A1 mg mb xs o1, ⟨xs.length, rfl, Nat.zero_le _, p1, _, A1, RL, .refl, e2⟩, ?_⟩
  rintro i m σ2 H2 ⟨rfl, hi', p2, α2, A2, R2, S2, e4⟩
  obtain ⟨yes, stop⟩ := it.go p2 H2 σ2 α2 A2 R2 (S2.tr RL) (dep_of lkb S2)
  by_cases lt : i < xs.length
  · right
    have hx : xs[i]? = some xs[i] := List.getElem?_eq_getElem lt
    obtain ⟨hgo, hy⟩ := yes i _ hx
    refine ⟨hgo, fun σ' H' => ∃ m', m' < xs.length - i ∧ ForW K p1 H1 σ (lockA α1 dep) A1 mg mb xs o1 (i + 1) m' σ' H', fun σ' H' h => h, fun v H3 y => ?_⟩
    obtain ⟨sm, dv⟩ := hy v H3 y
    rw [List.drop_eq_getElem_cons lt] at e4
    simp only [forL, Option.bind_eq_some_iff] at e4
    obtain ⟨α3, e5, o2, e6, e7⟩ := e4
    have R3 := R2.same sm
    have S3 : Step p1 H1 σ (lockA α1 dep) A1 p2 H3 σ2 α2 A2 := S2.trans RL (.same sm)
    refine hg.go p2 H3 σ2 α2 A2 v xs[i] α3 _ R3 dv e5 fun p4 H4 σ4 A4 R4 S4 => ?_
    have S4' := S3.trans RL S4
    refine hb.go p4 H4 σ4 α3 A4 o2 _ R4 e6 ?_
    cases o2 with
    | nx β => exact fun p5 H5 σ5 A5 R5 S5 => ⟨_, by omega, rfl, lt, p5, β, A5, R5, S4'.trans RL S5, e7⟩
    | ct β => exact fun p5 H5 σ5 A5 R5 S5 => ⟨_, by omega, rfl, lt, p5, β, A5, R5, S4'.trans RL S5, e7⟩
    | bk β =>
      cases e7
      exact fun p5 H5 σ5 A5 R5 S5 => h p5 H5 σ5 A5 (rel_free lkb (S4'.trans RL S5) R5) (S1.trans R (step_free lkb (S4'.trans RL S5)))
    | rt r β =>
      cases e7
      exact fun p5 H5 σ5 A5 v R5 S5 z => h p5 H5 σ5 A5 v (rel_free lkb (S4'.trans RL S5) R5) (S1.trans R (step_free lkb (S4'.trans RL S5))) (z.early fun b q => S1.dom b (S4'.dom b q))
  · left
    have ei : i = xs.length := by omega
    subst ei
    rw [List.drop_length] at e4
    cases e4
    exact ⟨stop, h p2 H2 σ2 A2 (rel_free lkb S2 R2) (S1.trans R (step_free lkb S2))⟩⟩
end
end Vm
namespace Vm
open PySem PySem.Spec PyProof.Rows L2 Gk
section
variable {K : PySem.W.Frag} {p p' p2 : List Addr} {H H' H2 : Hp} {σ σ' σ2 : L2.St} {α α' α2 α0 : AS} {A A' A2 A0 : FT}
def wipeA (α : AS) : List Nat → AS
  | [] => α
  | v :: vs => (wipeA α vs).set v .un
theorem wipeA_length : ∀ vs : List Nat, (wipeA α vs).length = α.length
  | [] => rfl
  | v :: vs => by unfold wipeA; rw [List.length_set, wipeA_length vs]
theorem wipeA_get {i : Nat} : ∀ vs : List Nat, (wipeA α vs)[i]? = if i ∈ vs then (α[i]?).map fun _ => AV.un else α[i]?
  | [] => by simp [wipeA]
  | v :: vs => by
    unfold wipeA
    by_cases e : i = v
    · subst e
      rw [if_pos (List.mem_cons_self ..)]
      by_cases h : i < α.length
      · rw [List.getElem?_set_self (by rw [wipeA_length]; exact h), List.getElem?_eq_getElem h]
        rfl
      · have h1 : α[i]? = none := List.getElem?_eq_none_iff.mpr (by omega)
        rw [h1, List.getElem?_eq_none_iff.mpr (by rw [List.length_set, wipeA_length]; omega)]
        rfl
    · rw [List.getElem?_set_ne (fun z => e z.symm), wipeA_get vs]
      by_cases h : i ∈ vs
      · rw [if_pos h, if_pos (List.mem_cons_of_mem _ h)]
      · rw [if_neg h, if_neg (fun z => (List.mem_cons.mp z).elim e h)]
theorem wipe_get {i : Nat} : ∀ vs : List Nat, (wipe σ vs)[i]? = if i ∈ vs then (σ[i]?).map fun _ => none else σ[i]?
  | [] => by simp [wipe]
  | v :: vs => by
    unfold wipe
    by_cases e : i = v
    · subst e
      rw [if_pos (List.mem_cons_self ..)]
      by_cases h : i < σ.length
      · rw [List.getElem?_set_self (by rw [wipe_length]; exact h), List.getElem?_eq_getElem h]
        rfl
      · have h1 : σ[i]? = none := List.getElem?_eq_none_iff.mpr (by omega)
        rw [h1, List.getElem?_eq_none_iff.mpr (by rw [List.length_set, wipe_length]; omega)]
        rfl
    · rw [List.getElem?_set_ne (fun z => e z.symm), wipe_get vs]
      by_cases h : i ∈ vs
      · rw [if_pos h, if_pos (List.mem_cons_of_mem _ h)]
      · rw [if_neg h, if_neg (fun z => (List.mem_cons.mp z).elim e h)]
theorem wipe_wipe (vs : List Nat) : wipe (wipe σ vs) vs = wipe σ vs := by
  apply List.ext_getElem?
  intro i
  rw [wipe_get, wipe_get]
  by_cases h : i ∈ vs
  · rw [if_pos h, if_pos h, Option.map_map]
    rfl
  · rw [if_neg h, if_neg h]
/-- what stands in the own slots of a block is let be -/
def backA (α0 α : AS) (vs : List Nat) : AS := α.mapIdx fun i r => if i ∈ vs then (α0[i]?).getD .un else r
theorem backA_get {vs : List Nat} {i : Nat} : (backA α0 α vs)[i]? = (α[i]?).map fun r => if i ∈ vs then (α0[i]?).getD .un else r := by
  unfold backA
  rw [List.getElem?_mapIdx]
def noRoots (α : AS) (vs : List Nat) : Prop := ∀ i ∈ vs, ∀ r, α[i]? = some r → r.isRoot = false
instance : Decidable (noRoots α vs) := by
  have : noRoots α vs ↔ ∀ i ∈ vs, ((α[i]?).all fun r => !r.isRoot) = true := by
    unfold noRoots
    constructor
    · intro h i m
      cases e : α[i]? with
      | none => rfl
      | some r => simp [h i m r e]
    · intro h i m r e
      have := h i m
      rw [e] at this
      simpa using this
  exact decidable_of_iff' _ this
def noFix (α : AS) (vs : List Nat) : Prop := ∀ i ∈ vs, ∀ r, α[i]? = some r → r.isFix = false
def wipeF (A : FT) (vs : List Nat) : FT := fun i => if i ∈ vs then [] else A i
theorem wipeF_mem {vs : List Nat} {i : Nat} {a : Addr} (h : a ∈ wipeF A vs i) : i ∉ vs ∧ a ∈ A i := by
  unfold wipeF at h
  split at h
  · exact (List.not_mem_nil h).elim
  · exact ⟨by assumption, h⟩
theorem rel_wipe (R : Rel K p H σ α A) (vs : List Nat) : Rel K p H (wipe σ vs) (wipeA α vs) (wipeF A vs) := by
  refine ⟨by rw [wipe_length, wipeA_length, R.len], fun i r h2 => ?_, fun i h => ?_, fun i => ?_, fun i j a h1 h2 => R.dj i j a (wipeF_mem h1).2 (wipeF_mem h2).2, fun i a h => R.inp i a (wipeF_mem h).2, R.al, R.tb⟩
  · rw [wipeA_get] at h2
    split at h2
    · rename_i m
      obtain ⟨_, _, rfl⟩ := Option.map_eq_some_iff.mp h2
      show wipeF A vs i = []
      unfold wipeF
      rw [if_pos m]
    · rename_i n
      have e : wipeF A vs i = A i := by unfold wipeF; rw [if_neg n]
      rw [e, wipe_get, if_neg n]
      exact R.sl i r h2
  · unfold wipeF
    split
    · rfl
    · rename_i n
      rw [wipeA_get, if_neg n] at h
      exact R.out i h
  · unfold wipeF
    split
    · exact .nil
    · exact R.nd i
theorem step_wipe (vs : List Nat) (hn : noFix α vs) : Step p H σ α A p H (wipe σ vs) (wipeA α vs) (wipeF A vs) := by
  refine ⟨fun _ _ _ h _ => .inl h, fun _ h => h, fun i b h => .inl (wipeF_mem h).2, fun _ h => .inl h, fun _ h => .inl h, wipeA_length vs, fun i r h f => ?_, fun i r h f => ?_⟩
  · have n : i ∉ vs := fun m => by
      have := hn i m r h
      rw [f] at this
      cases this
    rw [wipe_get, wipeA_get, if_neg n, if_neg n]
    exact ⟨rfl, r, h, .refl⟩
  · rw [wipeA_get] at h
    split at h
    · obtain ⟨_, _, rfl⟩ := Option.map_eq_some_iff.mp h
      cases f
    · exact ⟨r, h, f⟩
/-- behind a block: the slots are the def's again -/
theorem rel_back {vs : List Nat} (R0 : Rel K p H σ α0 A0) (hn : noRoots α0 vs) (S : Step p H (wipe σ vs) (wipeA α0 vs) (wipeF A0 vs) p' H' σ' α' A') (R : Rel K p' H' σ' α' A') (hw : wipe σ' vs = wipe σ vs) :
    Rel K p' H' σ (backA α0 α' vs) (wipeF A' vs) ∧ Step p H σ α0 A0 p' H' σ (backA α0 α' vs) (wipeF A' vs) := by
  have hlen : σ'.length = σ.length := by
    have := congrArg List.length hw
    rwa [wipe_length, wipe_length] at this
  have hla : α'.length = α0.length := by rw [S.ln, wipeA_length]
  have same : ∀ i, i ∉ vs → σ'[i]? = σ[i]? := fun i n => by
    have := congrArg (fun l => l[i]?) hw
    simp only [wipe_get, if_neg n] at this
    exact this
  have t := S.tr (rel_wipe R0 vs)
  refine ⟨⟨by rw [R0.len]; unfold backA; rw [List.length_mapIdx, hla], fun i r h2 => ?_, fun i h => ?_, fun i => ?_, fun i j a h1 h2 => R.dj i j a (wipeF_mem h1).2 (wipeF_mem h2).2, fun i a h => R.inp i a (wipeF_mem h).2, R.al, R.tb⟩,
    ⟨fun b o ht h n => S.keep b o ht h fun i z => n i (wipeF_mem z).2, S.dom, fun i b h => ?_, S.sub, fun b m => ?_, by unfold backA; rw [List.length_mapIdx, hla], fun i r h f => ?_, fun i r h f => ?_⟩⟩
  · rw [backA_get] at h2
    obtain ⟨s, e1, e2⟩ := Option.map_eq_some_iff.mp h2
    split at e2
    · rename_i m
      have e : wipeF A' vs i = [] := by unfold wipeF; rw [if_pos m]
      rw [e]
      cases q : α0[i]? with
      | none => rw [q] at e2; subst e2; rfl
      | some u =>
        rw [q] at e2
        have e3 : u = r := e2
        subst e3
        have z := R0.sl i u q
        have nr := hn i m u q
        cases u with
        | un => rfl
        | d x => obtain ⟨_, v, e, d⟩ := z; exact ⟨rfl, v, e, d.tr t⟩
        | r f l xs => cases nr
        | n f l xs => cases nr
        | sc ns =>
          obtain ⟨_, a, e, sq⟩ := z
          rcases sq with ⟨na, sq⟩ | sq
          · exact ⟨rfl, a, e, .inl ⟨(t.mt a _ rfl na sq).2, (t.mt a _ rfl na sq).1⟩⟩
          · exact ⟨rfl, a, e, .inr sq⟩
        | g φ => obtain ⟨_, a, e, h, k⟩ := z; exact ⟨rfl, a, e, k _ _ _ _ t h, k⟩
    · rename_i n
      subst e2
      have e : wipeF A' vs i = A' i := by unfold wipeF; rw [if_neg n]
      rw [e, ← same i n]
      exact R.sl i s e1
  · unfold wipeF
    split
    · rfl
    · rw [backA_get] at h
      exact R.out i (Option.map_eq_none_iff.mp h)
  · unfold wipeF
    split
    · exact .nil
    · exact R.nd i
  · rcases S.new i b (wipeF_mem h).2 with y | y
    · exact .inl (wipeF_mem y).2
    · exact .inr y
  · rcases S.mono b m with z | ⟨i, z⟩
    · exact .inl z
    · exact .inr ⟨i, (wipeF_mem z).2⟩
  · have n : i ∉ vs := fun m => by
      have := hn i m r h
      rw [isRoot_of_isFix f] at this
      cases this
    have h' : (wipeA α0 vs)[i]? = some r := by rw [wipeA_get, if_neg n]; exact h
    obtain ⟨e1, s, e2, e3⟩ := S.fix i r h' f
    exact ⟨rfl, s, by rw [backA_get, e2]; simp only [Option.map_some, if_neg n], e3⟩
  · rw [backA_get] at h
    obtain ⟨s, e1, e2⟩ := Option.map_eq_some_iff.mp h
    split at e2
    · cases q : α0[i]? with
      | none => rw [q] at e2; subst e2; cases f
      | some u => rw [q] at e2; have e3 : u = r := e2; subst e3; exact ⟨u, rfl, f⟩
    · rename_i n
      subst e2
      obtain ⟨u, e3, f3⟩ := S.nof i s e1 f
      rw [wipeA_get, if_neg n] at e3
      exact ⟨u, e3, f3⟩
structure RefB (K : PySem.W.Frag) (g : TG) (m : MG) (vs : List Nat) : Prop where
  go : ∀ p H σ α A v x α' Q, Rel K p H σ α A → Dz K p H v x → m x α = some α' →
    (∀ σ' A', Rel K p H σ' α' A' → Step p H σ α A p H σ' α' A' → wipe σ' vs = wipe σ vs → Q σ' H) → g v σ H Q
structure RefBs (K : PySem.W.Frag) (g : TGs) (m : MGs) (vs : List Nat) : Prop where
  go : ∀ p H σ α A v x α' Q, Rel K p H σ α A → DzA K p H v x → m x α = some α' →
    (∀ σ' A', Rel K p H σ' α' A' → Step p H σ α A p H σ' α' A' → wipe σ' vs = wipe σ vs → Q σ' H) → g v σ H Q
theorem wipe_set {i : Nat} {vs : List Nat} (hi : i ∈ vs) (v : Option V) : wipe (σ.set i v) vs = wipe σ vs := by
  apply List.ext_getElem?
  intro j
  rw [wipe_get, wipe_get]
  by_cases e : j = i
  · subst e
    rw [if_pos hi, if_pos hi]
    by_cases h : j < σ.length
    · rw [List.getElem?_set_self h, List.getElem?_eq_getElem h]
      rfl
    · rw [List.getElem?_eq_none_iff.mpr (by rw [List.length_set]; omega), List.getElem?_eq_none_iff.mpr (by omega)]
  · rw [List.getElem?_set_ne (fun z => e z.symm)]
theorem ref_bName {i : Nat} {vs : List Nat} (hi : i ∈ vs) : RefB K (gName i) (setD i) vs := ⟨fun p H σ α A v x α' Q R d e h => by
  obtain ⟨r, e1, e2, rfl⟩ := setD_some e
  have ⟨a, b⟩ := rel_setD R d e1 e2
  exact h _ _ a b (wipe_set hi _)⟩
theorem ref_bNil {vs : List Nat} : RefBs K gNil gsNil vs := ⟨fun p H σ α A v x α' Q R d e h => by
  cases d with
  | nil => cases e; exact ⟨rfl, h σ A R .refl rfl⟩
  | cons _ _ => cases e⟩
theorem ref_bCons {g : TG} {u : TGs} {m : MG} {r : MGs} {vs : List Nat} (hg : RefB K g m vs) (hu : RefBs K u r vs) : RefBs K (gCons g u) (gsCons m r) vs := ⟨fun p H σ α A v x α' Q R d e h => by
  cases d with
  | nil => cases e
  | cons d1 d2 =>
    simp only [gsCons, Option.bind_eq_some_iff] at e
    obtain ⟨β, e1, e2⟩ := e
    refine ⟨_, _, rfl, hg.go p H σ α A _ _ β _ R d1 e1 fun σ1 A1 R1 S1 w1 => ?_⟩
    exact hu.go p H σ1 β A1 _ _ α' _ R1 d2 e2 fun σ2 A2 R2 S2 w2 => h σ2 A2 R2 (S1.trans R S2) (w2.trans w1)⟩
theorem ref_bTup {n : Nat} {u : TGs} {r : MGs} {vs : List Nat} (hu : RefBs K u r vs) : RefB K (gTup K n u) (gTupD n r) vs := ⟨fun p H σ α A v x α' Q R d e h => by
  unfold gTupD at e
  split at e
  · split at e
    · rename_i hn
      cases d with
      | tup hs hl ds => exact ⟨_, _, rfl, .of hs, by rw [ds.length]; exact hn, hu.go p H σ α A _ _ α' _ R ds e h⟩
    · cases e
  · cases e⟩
def tYesM : MT := fun α => some (true, α)
theorem ref_yes : RefT K tYes tYesM := ⟨fun p H σ α A b α' Q R e h => by cases e; exact h p H A R .refl⟩
def HO.noTup : HO → Prop
  | .tup _ => False
  | .tbl _ => False
  | .ext _ => False
  | _ => True
theorem noTup_tbl {o : HO} (hn : HO.noTup o) : HO.isTbl o = false := by cases o <;> first | exact hn.elim | rfl
theorem noTup_na {a : Addr} {o : HO} (ho : H a = some o) (hn : HO.noTup o) : ∀ u, H a = some u → HO.isTbl u = false ∧ ∀ φ, u ≠ .ext φ := fun u e => by
  rw [ho] at e
  cases e
  cases o <;> first | exact hn.elim | exact ⟨rfl, fun φ z => by cases z⟩
theorem tr_upd {a : Addr} {o o' : HO} (hp : a ∈ p) (ho : H a = some o) (hn : HO.noTup o) : Tr p H p (L2.upd H a o') := by
  have ne : ∀ b, b ∉ p → b ≠ a := fun b n e => n (e ▸ hp)
  refine ⟨fun b u _ n r => ⟨Rd.same (fun o e => by rw [upd_ne (ne b n)]; exact e) r, n⟩, fun b xs n r => by rw [upd_ne (ne b n)]; exact r, fun b xs r => ?_, fun b o u n r => by rw [upd_ne (ne b n)]; exact r⟩
  by_cases e : b = a
  · subst e; rw [ho] at r; cases r; exact hn.elim
  · rw [upd_ne e]; exact r
theorem rel_upd {a : Addr} {o o' : HO} (R : Rel K p H σ α A) (hp : a ∈ p) (ho : H a = some o) (hn : HO.noTup o) (nr : ∀ i, a ∉ A i) : Rel K p (L2.upd H a o') σ α A :=
  ⟨R.len, fun i r e => (R.sl i r e).tr (tr_upd hp ho hn) fun c m u q => by rw [upd_ne (fun z => by subst z; exact nr i m)]; exact q, R.out, R.nd, R.dj, R.inp, fun b m z => by
    by_cases e : b = a
    · subst e; rw [upd_same] at z; cases z
    · rw [upd_ne e] at z; exact R.al b m z, R.tb.put (fun b u ne e => by rw [upd_ne ne]; exact e) (noTup_na ho hn) fun b m => .inl m⟩
theorem Step.upd {a : Addr} {o : HO} (S : Step p H σ α A p' H' σ' α' A') (h : H a = none) : Step p H σ α A p' (L2.upd H' a o) σ' α' A' :=
  ⟨fun b u ht e n => by
    have ne : b ≠ a := fun z => by rw [z, h] at e; cases e
    rcases S.keep b u ht e n with z | ⟨z1, z2, od, z3⟩
    · exact .inl (by rw [upd_ne ne]; exact z)
    · exact .inr ⟨z1, z2, od, by rw [upd_ne ne]; exact z3⟩, fun b e => by
    by_cases z : b = a
    · subst z; rw [upd_same] at e; cases e
    · rw [upd_ne z] at e; exact S.dom b e, S.new, S.sub, S.mono, S.ln, S.fix, S.nof⟩
theorem rel_new {a : Addr} {o : HO} (R : Rel K p H σ α A) (h : H a = none) : Rel K (a :: p) (L2.upd H a o) σ α A ∧ Step p H σ α A (a :: p) (L2.upd H a o) σ α A ∧ ∀ i, a ∉ A i := by
  have na : ∀ i, a ∉ A i := fun i m => R.in_al m h
  have s := same_new (o := o) h
  refine ⟨⟨R.len, fun i r e => (R.sl i r e).tr (tr_new h s) fun c m u q => s c u q, R.out, R.nd, R.dj, fun i b m => List.mem_cons_of_mem _ (R.inp i b m), fun b m z => ?_, (R.tb.sub (q := a :: p) fun b m => ?_).same s⟩,
    ⟨fun b u _ e _ => .inl (s b u e), fun b e => Same.free s e, fun i b m => .inl m, fun b m => ?_, fun b m => .inl (List.mem_cons_of_mem _ m), rfl, fun i r e f => ⟨rfl, r, e, .refl⟩, fun i r e f => ⟨r, e, f⟩⟩, na⟩
  · rcases List.mem_cons.mp m with e | m
    · subst e; rw [upd_same] at z; cases z
    · exact R.al b m (Same.free s z)
  · rcases List.mem_cons.mp m with e | m
    · exact .inr (e ▸ h)
    · exact .inl m
  · rcases List.mem_cons.mp m with e | m
    · exact .inr (e ▸ h)
    · exact .inl m
abbrev MF := AS → Option (Nw × AS)
structure RefF (K : PySem.W.Frag) (t : TE) (m : MF) : Prop where
  go : ∀ p H σ α A r α' Q, Rel K p H σ α A → m α = some (r, α') →
    (∀ p' H' A' a as, Rel K p' H' σ α' A' → Step p H σ α A p' H' σ α' A' → Fresh p' H A' (a :: as) → NewR K p' H' a as r → Q (.ref a) H') → t σ H Q
/-- an own thing becomes data -/
theorem Top.frz {a : Addr} {x : Da} {q : List Addr} {lk : Bool} (h : Top K p H lk a x) (l : ∀ b ∈ q, b ∈ p) (n : a ∉ q) : Dz K q H (.ref a) x := by
  have t := tr_less (H := H) l
  cases x with
  | list xs => obtain ⟨vs, h1, h2, h3⟩ := h; exact .lst n h1 h2 (h3.tr t)
  | dk xs => obtain ⟨vs, h1, h2, h3⟩ := h; exact .dk n h1.rd h2 (h3.tr t)
  | dt xs => obtain ⟨vs, h1, h2, h3⟩ := h; exact .dt n h1.rd h2 (h3.tr t)
  | _ => exact h.elim
theorem KidsK.frz {q : List Addr} (l : ∀ b ∈ q, b ∈ p) : ∀ {r : List (Key × V)} {s : List (Key × Da)} {as : List Addr}, (∀ b ∈ as, b ∉ q) → KidsK K p H r s as → DzK K q H r s
  | _, _, _, _, .nil => .nil
  | _, _, _, k, .cons h1 h2 h3 => .cons h1 (h2.frz l (k _ (List.mem_cons_self ..))) (KidsK.frz l (fun b m => k b (List.mem_cons_of_mem _ m)) h3)
theorem KidsT.frz {q : List Addr} (l : ∀ b ∈ q, b ∈ p) : ∀ {r : List (List Key × V)} {s : List (List Key × Da)} {as : List Addr}, (∀ b ∈ as, b ∉ q) → KidsT K p H r s as → DzT K q H r s
  | _, _, _, _, .nil => .nil
  | _, _, _, k, .cons h1 h2 h3 => .cons h1 (h2.frz l (k _ (List.mem_cons_self ..))) (KidsT.frz l (fun b m => k b (List.mem_cons_of_mem _ m)) h3)
theorem Nest.frz {a : Addr} {as : List Addr} {x : Da} {q : List Addr} {lk : Bool} (h : Nest K p H lk a as x) (l : ∀ b ∈ q, b ∈ p) (n : ∀ b ∈ a :: as, b ∉ q) : Dz K q H (.ref a) x := by
  cases x with
  | dk xs => obtain ⟨vs, h1, h2, h3⟩ := h; exact .dk (n a (List.mem_cons_self ..)) h1.rd h2 (h3.frz l fun b m => n b (List.mem_cons_of_mem _ m))
  | dt xs => obtain ⟨vs, h1, h2, h3⟩ := h; exact .dt (n a (List.mem_cons_self ..)) h1.rd h2 (h3.frz l fun b m => n b (List.mem_cons_of_mem _ m))
  | _ => exact h.elim
/-- some addresses that no slot has are let go -/
theorem rel_drop {as : List Addr} (R : Rel K p H σ α A) (na : ∀ b ∈ as, ∀ i, b ∉ A i) : Rel K (p.filter fun b => decide (b ∉ as)) H σ α A := by
  have less : ∀ b ∈ p.filter (fun b => decide (b ∉ as)), b ∈ p := fun b m => (List.mem_filter.mp m).1
  exact ⟨R.len, fun i r e => (R.sl i r e).tr (tr_less less) fun c _ u q => q, R.out, R.nd, R.dj, fun i b m => List.mem_filter.mpr ⟨R.inp i b m, decide_eq_true fun z => na b z i m⟩, fun b m => R.al b (less b m), R.tb.sub fun b m => .inl (less b m)⟩
def eF (m : MF) : ME := fun α => (m α).bind fun x => some (.d x.1.da, x.2)
theorem ref_F {t : TE} {m : MF} (hf : RefF K t m) : RefE K t (eF m) := ⟨fun p H σ α A l α' Q R e h => by
  simp only [eF, Option.bind_eq_some_iff] at e
  obtain ⟨⟨r, α1⟩, e1, e3⟩ := e
  cases e3
  refine hf.go p H σ α A r α1 _ R e1 fun p1 H1 A1 a as R1 S1 fr nw => ?_
  have less : ∀ b ∈ p1.filter (fun b => decide (b ∉ a :: as)), b ∈ p1 := fun b m => (List.mem_filter.mp m).1
  have nin : ∀ b ∈ a :: as, b ∉ p1.filter (fun b => decide (b ∉ a :: as)) := fun b m z => by
    have := (List.mem_filter.mp z).2
    exact of_decide_eq_true this m
  refine h _ H1 A1 (.ref a) (rel_drop R1 fr.noA) ⟨S1.keep, S1.dom, S1.new, fun b m => S1.sub b (less b m), fun b m => ?_, S1.ln, S1.fix, S1.nof⟩ ?_
  · rcases S1.mono b m with z | z
    · exact .inl (List.mem_filter.mpr ⟨z, decide_eq_true fun y => R.al b m (fr.non b y)⟩)
    · exact .inr z
  · cases r with
    | r x => exact nw.2.frz less (nin a (List.mem_cons_self ..))
    | n x => exact nw.frz less nin⟩
/-- x = a new thing that x alone holds -/
def setR (i : Nat) (r : Nw) (α : AS) : Option AS := match α[i]? with
  | some q => if q.isFix = true then none else some (α.set i r.av)
  | none => none
def sAsgR (i : Nat) (m : MF) : MS := fun α => (m α).bind fun x => (setR i x.1 x.2).bind fun β => some (.nx β)
theorem setR_some {i : Nat} {x : Nw} (h : setR i x α = some α') : ∃ r, α[i]? = some r ∧ r.isFix = false ∧ α' = α.set i x.av := by
  unfold setR at h
  split at h
  · rename_i r e
    split at h
    · cases h
    · rename_i n
      cases h
      exact ⟨r, e, by simpa using n, rfl⟩
  · cases h
theorem new_slot {a : Addr} {as : List Addr} {r : Nw} (nw : NewR K p H a as r) : SlotR K p H (some (.ref a)) (a :: as) r.av := by
  cases r with
  | r x => obtain ⟨rfl, t⟩ := nw; exact ⟨a, rfl, rfl, t⟩
  | n x => exact ⟨a, as, rfl, rfl, nw⟩
theorem av_fix (r : Nw) : r.av.isFix = false := by cases r <;> rfl
theorem rel_setR {i : Nat} {q : AV} {r : Nw} {a : Addr} {as : List Addr} (R : Rel K p H σ α A) (R1 : Rel K p' H' σ α' A') (S1 : Step p H σ α A p' H' σ α' A') (fr : Fresh p' H A' (a :: as)) (nw : NewR K p' H' a as r) (hi : α'[i]? = some q) (hf : q.isFix = false) :
    Rel K p' H' (σ.set i (some (.ref a))) (α'.set i r.av) (setF A' i (a :: as)) ∧ Step p H σ α A p' H' (σ.set i (some (.ref a))) (α'.set i r.av) (setF A' i (a :: as)) := by
  refine ⟨rel_put R1 hi (new_slot nw) fr.nd fr.inp fun b m j _ => fr.noA b m j, ?_⟩
  have hia : i < α'.length := (List.getElem?_eq_some_iff.mp hi).1
  refine ⟨S1.keep, S1.dom, fun j b m => ?_, S1.sub, S1.mono, by rw [List.length_set]; exact S1.ln, fun j s e g => ?_, fun j s e g => ?_⟩
  · rcases setF_mem m with ⟨_, m⟩ | ⟨_, m⟩
    · exact .inr (fr.non b m)
    · exact S1.new j b m
  · obtain ⟨e1, s1, e2, k⟩ := S1.fix j s e g
    have ne : j ≠ i := fun z => by subst z; rw [hi] at e2; cases e2; rw [k.fx, g] at hf; cases hf
    rw [List.getElem?_set_ne (fun z => ne z.symm), List.getElem?_set_ne (fun z => ne z.symm)]
    exact ⟨rfl, s1, e2, k⟩
  · by_cases z : j = i
    · subst z
      rw [List.getElem?_set_self hia] at e
      cases e
      rw [av_fix] at g; cases g
    · rw [List.getElem?_set_ne (fun y => z y.symm)] at e
      exact S1.nof j s e g
theorem ref_asgR {t : TE} {m : MF} {i : Nat} (hf : RefF K t m) : RefS K (tAsg t (gName i)) (sAsgR i m) := ⟨fun p H σ α A o D R e h => by
  simp only [sAsgR, Option.bind_eq_some_iff] at e
  obtain ⟨⟨r, α1⟩, e1, β, e2, e3⟩ := e
  cases e3
  obtain ⟨q, e4, e5, rfl⟩ := setR_some e2
  refine hf.go p H σ α A r α1 _ R e1 fun p1 H1 A1 a as R1 S1 fr nw => ?_
  have ⟨R2, S2⟩ := rel_setR R R1 S1 fr nw e4 e5
  exact h p1 H1 _ _ R2 S2⟩
/-- return of a new thing -/
def sRetF (m : MF) : MS := fun α => (m α).bind fun x => some (.rt (.nw x.1) x.2)
theorem ref_retF {t : TE} {m : MF} (hf : RefF K t m) : RefS K (tRet t) (sRetF m) := ⟨fun p H σ α A o D R e h => by
  simp only [sRetF, Option.bind_eq_some_iff] at e
  obtain ⟨⟨r, α1⟩, e1, e3⟩ := e
  cases e3
  exact hf.go p H σ α A r α1 _ R e1 fun p1 H1 A1 a as R1 S1 fr nw => h p1 H1 σ A1 _ R1 S1 ⟨a, as, rfl, fr, nw⟩⟩
/-- slot i's own thing is data from now on -/
def sFrz (i : Nat) (m : MS) : MS := fun α => match α[i]? with
  | some (.r false false x) => m (α.set i (.d x))
  | some (.n false false x) => m (α.set i (.d x))
  | _ => none
theorem frz_core {i : Nat} {r : AV} {x : Da} (R : Rel K p H σ α A) (hi : α[i]? = some r) (hr : r = .r false false x ∨ r = .n false false x) :
    ∃ p', Rel K p' H σ (α.set i (.d x)) (setF A i []) ∧ Step p H σ α A p' H σ (α.set i (.d x)) (setF A i []) := by
  have less : ∀ b ∈ p.filter (fun b => decide (b ∉ A i)), b ∈ p := fun b m => (List.mem_filter.mp m).1
  have nin : ∀ b ∈ A i, b ∉ p.filter (fun b => decide (b ∉ A i)) := fun b m z => of_decide_eq_true (List.mem_filter.mp z).2 m
  have hia : i < α.length := (List.getElem?_eq_some_iff.mp hi).1
  have his := R.lt hi
  have dz : ∃ v, (σ[i]?).join = some v ∧ Dz K (p.filter fun b => decide (b ∉ A i)) H v x := by
    have z := R.sl i r hi
    rcases hr with rfl | rfl
    · obtain ⟨a, e1, e2, t⟩ := z
      exact ⟨_, e1, t.frz less (nin a (by rw [e2]; exact List.mem_cons_self ..))⟩
    · obtain ⟨a, as, e1, e2, t⟩ := z
      exact ⟨_, e1, t.frz less fun b m => nin b (by rw [e2]; exact m)⟩
  obtain ⟨v, e1, dz⟩ := dz
  have rf : r.isFix = false := by rcases hr with rfl | rfl <;> rfl
  have es : σ.set i (some v) = σ := by
    apply List.ext_getElem?
    intro j
    by_cases e : j = i
    · subst e
      rw [List.getElem?_set_self his]
      rw [List.getElem?_eq_getElem his] at e1 ⊢
      exact congrArg some e1.symm
    · rw [List.getElem?_set_ne (fun z => e z.symm)]
  have R0 : Rel K p H σ (α.set i .un) (setF A i []) := by
    have z := rel_put (o := some v) (f := []) (r := .un) R hi rfl .nil (fun _ m => (List.not_mem_nil m).elim) (fun _ m => (List.not_mem_nil m).elim)
    rwa [es] at z
  have R1 := rel_drop (as := A i) R0 (fun b m j z => by
    rcases setF_mem z with ⟨_, z⟩ | ⟨n, z⟩
    · exact List.not_mem_nil z
    · exact n (R.dj j i b z m))
  refine ⟨p.filter fun b => decide (b ∉ A i), ?_, ?_⟩
  · have z := rel_put (o := some v) (f := []) (r := .d x) (i := i) (q := .un) R1 (List.getElem?_set_self hia) ⟨rfl, v, rfl, dz⟩ .nil (fun _ m => (List.not_mem_nil m).elim) (fun _ m => (List.not_mem_nil m).elim)
    rw [es, List.set_set] at z
    have ef : setF (setF A i []) i [] = setF A i [] := by funext j; unfold setF; split <;> rfl
    rwa [ef] at z
  · have z := step_put (o := some v) (f := []) (r := .d x) R hi rf rfl (fun _ m => (List.not_mem_nil m).elim)
    rw [es] at z
    refine ⟨z.keep, z.dom, z.new, fun b m => .inl (less b m), fun b m => ?_, z.ln, z.fix, z.nof⟩
    by_cases y : b ∈ A i
    · exact .inr ⟨i, y⟩
    · exact .inl (List.mem_filter.mpr ⟨m, decide_eq_true y⟩)
theorem ref_frz {t : TS} {m : MS} {i : Nat} (h : RefS K t m) : RefS K t (sFrz i m) := ⟨fun p H σ α A o D R e q => by
  unfold sFrz at e
  split at e
  · rename_i x hi
    obtain ⟨p1, R1, S1⟩ := frz_core R hi (.inl rfl)
    exact h.go p1 H σ _ _ o D R1 e (q.step R S1)
  · rename_i x hi
    obtain ⟨p1, R1, S1⟩ := frz_core R hi (.inr rfl)
    exact h.go p1 H σ _ _ o D R1 e (q.step R S1)
  · cases e⟩
def fLst (ma : MA) : MF := fun α => (ma α).bind fun x => (ownA x.2 x.1).bind fun xs => if xs.length ≤ LIM then some (.r (.list xs), x.2) else none
theorem fresh_one {a : Addr} (hp : a ∈ p) (hn : H a = none) (na : ∀ i, a ∉ A i) : Fresh p H A [a] :=
  ⟨fun b m => by cases List.mem_singleton.mp m; exact hp, fun b m => by cases List.mem_singleton.mp m; exact hn, fun b m => by cases List.mem_singleton.mp m; exact na, by simp⟩
theorem ref_fLst {ta : TA} {ma : MA} (ha : RefA K ta ma) : RefF K (tLst ta) (fLst ma) :=
  ⟨fun p H σ α A l α' Q R e h => by
    simp only [fLst, Option.bind_eq_some_iff] at e
    obtain ⟨⟨l1, α1⟩, e1, xs, e2, e3⟩ := e
    split at e3
    · rename_i hl
      cases e3
      refine ha.go p H σ α A l1 α1 _ R e1 fun p1 H1 A1 v R1 S1 q1 => ?_
      have z := ownA_dz R1 q1 e2
      have hv : v.length ≤ LIM := by rw [z.length]; exact hl
      refine ⟨line_of hv, fun a ha => ?_⟩
      obtain ⟨R2, S2, nr⟩ := rel_new (o := .lst v) R1 ha
      exact h _ _ A1 a [] R2 (S1.trans R S2) (fresh_one (List.mem_cons_self ..) (S1.dom a ha) nr) ⟨rfl, v, upd_same, hv, z.tr (tr_new ha (same_new ha))⟩
    · cases e3⟩
def fDK (nest : Bool) : MF := fun α => some (if nest = true then .n (.dk []) else .r (.dk []), α)
theorem ref_fDK {nest : Bool} : RefF K tDNewK (fDK nest) := ⟨fun p H σ α A l α' Q R e h => by
  cases e
  intro a ha
  obtain ⟨R2, S2, nr⟩ := rel_new (o := .dK []) R ha
  refine h _ _ A a [] R2 S2 (fresh_one (List.mem_cons_self ..) ha nr) ?_
  cases nest
  · exact ⟨rfl, [], .of upd_same, Nat.zero_le _, .nil⟩
  · exact ⟨[], .of upd_same, Nat.zero_le _, .nil⟩⟩
end
end Vm
namespace Vm
open PySem PySem.Spec PyProof.Rows L2 Gk
section
variable {K : PySem.W.Frag} {p p' p2 p0 : List Addr} {H H' H2 H0 : Hp} {σ σ' σ2 σ0 : L2.St} {α α' α2 α0 : AS} {A A' A2 A0 : FT}
theorem Tr.trans (a : Tr p H p' H') (b : Tr p' H' p2 H2) : Tr p H p2 H2 :=
  ⟨fun x u hu n r => let z := a.mt x u hu n r; b.mt x u hu z.2 z.1, fun x xs n r => b.ls x xs (a.mt x _ rfl n (.inl r)).2 (a.ls x xs n r), fun x xs r => b.tp x xs (a.tp x xs r), fun x o u n r => b.fz x o u (a.mt x (.frz o u) rfl n (.inl r)).2 (a.fz x o u n r)⟩
theorem ItR.mono {J : It} {xs : List Da} {dep : List Nat} (h : ItR K p H σ α J xs dep) (t : Tr p H p' H') : ItR K p' H' σ α J xs dep :=
  ⟨fun p1 H1 σ1 α1 A1 R1 t1 d => h.go p1 H1 σ1 α1 A1 R1 (t.trans t1) d⟩
/-- the heap without D -/
def offD (H : Hp) (D : Addr) : Hp := fun b => if b = D then none else H b
theorem offD_ne {D b : Addr} (h : b ≠ D) : offD H D b = H b := by unfold offD; rw [if_neg h]
theorem offD_same {D : Addr} : offD H D D = none := by unfold offD; rw [if_pos rfl]
theorem tr_off {D : Addr} {o : HO} (hD : D ∈ p) (ho : H D = some o) (hn : HO.noTup o) : Tr p H (p.filter fun b => decide (b ≠ D)) (offD H D) := by
  have ne : ∀ b, b ∉ p → b ≠ D := fun b n e => n (e ▸ hD)
  refine ⟨fun b u _ n r => ⟨Rd.same (fun o e => by rw [offD_ne (ne b n)]; exact e) r, fun m => n (List.mem_filter.mp m).1⟩, fun b xs n r => by rw [offD_ne (ne b n)]; exact r, fun b xs r => ?_, fun b o u n r => by rw [offD_ne (ne b n)]; exact r⟩
  by_cases e : b = D
  · subst e; rw [ho] at r; cases r; exact hn.elim
  · rw [offD_ne e]; exact r
theorem rel_off {D : Addr} {o : HO} (R : Rel K p H σ α A) (hD : D ∈ p) (ho : H D = some o) (hn : HO.noTup o) (nr : ∀ i, D ∉ A i) : Rel K (p.filter fun b => decide (b ≠ D)) (offD H D) σ α A := by
  have ne : ∀ i, ∀ b ∈ A i, b ≠ D := fun i b m e => nr i (e ▸ m)
  refine ⟨R.len, fun i r e => (R.sl i r e).tr (tr_off hD ho hn) fun c m u q => by rw [offD_ne (ne i c m)]; exact q, R.out, R.nd, R.dj, fun i b m => List.mem_filter.mpr ⟨R.inp i b m, decide_eq_true (ne i b m)⟩, fun b m z => ?_, (R.tb.put (a := D) (fun b o ne e => by rw [offD_ne ne]; exact e) (noTup_na ho hn) fun b m => .inl (List.mem_filter.mp m).1)⟩
  have := of_decide_eq_true (List.mem_filter.mp m).2
  rw [offD_ne this] at z
  exact R.al b (List.mem_filter.mp m).1 z
theorem step_off {D : Addr} (R0 : Rel K p0 H0 σ0 α0 A0) (S : Step p0 H0 σ0 α0 A0 p H σ α A) (h0 : H0 D = none) : Step p0 H0 σ0 α0 A0 (p.filter fun b => decide (b ≠ D)) (offD H D) σ α A := by
  refine ⟨fun b o ht e n => ?_, fun b e => ?_, S.new, fun b m => S.sub b (List.mem_filter.mp m).1, fun b m => ?_, S.ln, S.fix, S.nof⟩
  · have ne : b ≠ D := fun z => by rw [z, h0] at e; cases e
    rcases S.keep b o ht e n with z | ⟨z1, z2, od, z3⟩
    · exact .inl (by rw [offD_ne ne]; exact z)
    · exact .inr ⟨z1, z2, od, by rw [offD_ne ne]; exact z3⟩
  · by_cases z : b = D
    · exact z ▸ h0
    · rw [offD_ne z] at e; exact S.dom b e
  · rcases S.mono b m with z | z
    · exact .inl (List.mem_filter.mpr ⟨z, decide_eq_true fun y => R0.al b m (y ▸ h0)⟩)
    · exact .inr z
/-- back from the heap without D -/
theorem step_on {D : Addr} (hD : D ∈ p) : Step (p.filter fun b => decide (b ≠ D)) (offD H D) σ α A p H σ α A := by
  refine ⟨fun b o _ e n => .inl ?_, fun b e => ?_, fun i b m => .inl m, fun b m => ?_, fun b m => .inl (List.mem_filter.mp m).1, rfl, fun i r e f => ⟨rfl, r, e, .refl⟩, fun i r e f => ⟨r, e, f⟩⟩
  · have ne : b ≠ D := fun z => by rw [z, offD_same] at e; cases e
    rw [offD_ne ne] at e
    exact e
  · by_cases z : b = D
    · rw [z]; exact offD_same
    · rw [offD_ne z]; exact e
  · by_cases z : b = D
    · exact .inr (z ▸ offD_same)
    · exact .inl (List.mem_filter.mpr ⟨m, decide_eq_true z⟩)
/-- what a comprehension grows -/
structure AccOk {β : Type} (Acc : List Addr → Hp → Addr → List β → Prop) : Prop where
  mv : ∀ {p H p' H' D done}, Acc p H D done → Tr p H p' H' → H' D = H D → Acc p' H' D done
  ob : ∀ {p H D done}, Acc p H D done → ∃ o, H D = some o ∧ HO.noTup o
structure RefC (K : PySem.W.Frag) {β : Type} (Acc : List Addr → Hp → Addr → List β → Prop) (u : L2.St → Hp → Addr → (Hp → Prop) → Prop) (m : AS → Option (List β × AS)) : Prop where
  go : ∀ p0 H0 σ0 α0 A0 p H σ α A D done ys α' Nx, Rel K p0 H0 σ0 α0 A0 → Step p0 H0 σ0 α0 A0 p H σ α A → H0 D = none → Rel K p H σ α A → D ∈ p → (∀ i, D ∉ A i) → Acc p H D done → m α = some (ys, α') → done.length + ys.length ≤ LIM →
    (∀ p' H' A', Rel K p' H' σ α' A' → Step p0 H0 σ0 α0 A0 p' H' σ α' A' → D ∈ p' → (∀ i, D ∉ A' i) → Acc p' H' D (done ++ ys) → Nx H') → u σ H D Nx
def cmL {β : Type} (vs : List Nat) (g : MG) (tt : MT) (u : AS → Option (List β × AS)) : List Da → AS → Option (List β × AS)
  | [], α => some ([], α)
  | x :: xs, α => (g x α).bind fun α1 => (tt α1).bind fun b => if b.1 = true
    then (u b.2).bind fun y => (cmL vs g tt u xs (wipeA y.2 vs)).bind fun r => some (y.1 ++ r.1, r.2)
    else cmL vs g tt u xs (wipeA b.2 vs)
/-- the loop of a block -/
def LoopB (J : It) (g : TG) (tt : TT) (u : L2.St → Hp → (Hp → Prop) → Prop) (vs : List Nat) (σ : L2.St) (H : Hp) (Fin : Hp → Prop) : Prop :=
  ∃ W : Nat → Nat → Hp → Prop, (∃ m, W 0 m H) ∧ ∀ i m H, W i m H →
    (J.stop i H ∧ Fin H) ∨ (J.go i H ∧ ∃ Nx : Hp → Prop, (∀ H', Nx H' → ∃ m', m' < m ∧ W (i + 1) m' H') ∧ ∀ x H', J.yld i H x H' → g x (wipe σ vs) H' fun σ2 H2 => wipe σ2 vs = wipe σ vs ∧ tt σ2 H2 fun b H3 => if b = true then u σ2 H3 Nx else Nx H3)
def CmW (K : PySem.W.Frag) {β : Type} (Acc : List Addr → Hp → Addr → List β → Prop) (ps : List Addr) (Hs : Hp) (σw : L2.St) (αs : AS) (As : FT) (vs : List Nat) (mg : MG) (mt : MT) (mu : AS → Option (List β × AS)) (xs : List Da) (done ys : List β) (αe : AS) (D : Addr) (i m : Nat) (H : Hp) : Prop :=
  m = xs.length - i ∧ i ≤ xs.length ∧ ∃ p α A d2 rest, Rel K p H σw α A ∧ Step ps Hs σw αs As p H σw α A ∧ D ∈ p ∧ (∀ i, D ∉ A i) ∧ Acc p H D (done ++ d2) ∧ cmL vs mg mt mu (xs.drop i) α = some (rest, αe) ∧ d2 ++ rest = ys
theorem loop_core {β : Type} {Acc : List Addr → Hp → Addr → List β → Prop} (ha : AccOk Acc) {J : It} {g : TG} {tt : TT} {u : L2.St → Hp → Addr → (Hp → Prop) → Prop} {vs : List Nat} {mg : MG} {mt : MT} {mu : AS → Option (List β × AS)}
    (hg : RefB K g mg vs) (ht : RefT K tt mt) (hu : RefC K Acc u mu) {D : Addr} {done ys : List β} {xs : List Da} {dep : List Nat} {αe : AS} {Fin : Hp → Prop}
    (R0 : Rel K p0 H0 σ0 α0 A0) (S : Step p0 H0 σ0 α0 A0 p H σ α A) (hD0 : H0 D = none) (R : Rel K p H σ α A) (hDp : D ∈ p) (nD : ∀ i, D ∉ A i) (acc : Acc p H D done)
    (it : ItR K p H σ α J xs dep) (lkb : Lockable α dep) (hn : noRoots α vs) (hd : ∀ i ∈ dep, i ∉ vs)
    (e : cmL vs mg mt mu xs (lockA (wipeA α vs) dep) = some (ys, αe)) (hl : done.length + ys.length ≤ LIM)
    (fin : ∀ p' H' A', Rel K p' H' σ (backA α (freeA (wipeA α vs) αe dep) vs) A' → Step p0 H0 σ0 α0 A0 p' H' σ (backA α (freeA (wipeA α vs) αe dep) vs) A' → D ∈ p' → (∀ i, D ∉ A' i) → Acc p' H' D (done ++ ys) → Fin H') :
    LoopB J g tt (fun σ H Nx => u σ H D Nx) vs σ H Fin := by
  obtain ⟨o, ho, hno⟩ := ha.ob acc
  have Rh := rel_off R hDp ho hno nD
  have S0h := step_off (D := D) R0 S hD0
  have Rw := rel_wipe Rh vs
  have lkw : Lockable (wipeA α vs) dep := fun i m => by
    obtain ⟨f, l, ys, q⟩ := lkb i m
    exact ⟨f, l, ys, by rw [wipeA_get, if_neg (hd i m)]; exact q⟩
  have Rl := rel_lock Rw dep
  have noD : ∀ i, D ∉ wipeF A vs i := fun i m => nD i (wipeF_mem m).2
  have R1 : Rel K p H (wipe σ vs) (lockA (wipeA α vs) dep) (wipeF A vs) := rel_lock (rel_wipe R vs) dep
  have itw : ∀ p1 H1 σ1 α1 A1, Rel K p1 H1 σ1 α1 A1 → Tr p H p1 H1 → (∀ i ∈ dep, σ1[i]? = (wipe σ vs)[i]? ∧ α1[i]? = ((wipeA α vs)[i]?).map AV.lock) →
      (∀ n x, xs[n]? = some x → J.go n H1 ∧ ∀ v H2, J.yld n H1 v H2 → Same H1 H2 ∧ Dz K p1 H2 v x) ∧ J.stop xs.length H1 := fun p1 H1 σ1 α1 A1 R1 t d => by
    refine it.go p1 H1 σ1 α1 A1 R1 t fun i m => ?_
    have := d i m
    rw [wipe_get, wipeA_get, if_neg (hd i m), if_neg (hd i m)] at this
    exact this
  refine ⟨CmW K Acc (p.filter fun b => decide (b ≠ D)) (offD H D) (wipe σ vs) (lockA (wipeA α vs) dep) (wipeF A vs) vs mg mt mu xs done ys αe D, ⟨xs.length, rfl, Nat.zero_le _, p, _, _, [], ys, R1, step_on hDp, hDp, noD, by rw [List.append_nil]; exact acc, e, rfl⟩, ?_⟩
  rintro i m H2 ⟨rfl, hi', p2, αw, Aw, d2, rest, R2, S2, hDp2, nD2, acc2, e7, e8⟩
  -- from the loop's begin, D there: nothing but D and own things changed
  have tr2 : Tr p H p2 H2 := by
    have t := S2.tr Rl
    obtain ⟨o2, ho2, hno2⟩ := ha.ob acc2
    refine ⟨fun a z hz n r => ?_, fun a zs n r => ?_, fun a zs r => ?_, fun a oo z n r => ?_⟩
    · have ne : a ≠ D := fun q => n (q ▸ hDp)
      exact t.mt a z hz (fun m => n (List.mem_filter.mp m).1) (Rd.same (fun o e => by rw [offD_ne ne]; exact e) r)
    · have ne : a ≠ D := fun q => n (q ▸ hDp)
      exact t.ls a zs (fun m => n (List.mem_filter.mp m).1) (by rw [offD_ne ne]; exact r)
    · have ne : a ≠ D := fun q => by rw [q, ho] at r; cases r; exact hno.elim
      exact t.tp a zs (by rw [offD_ne ne]; exact r)
    · have ne : a ≠ D := fun q => n (q ▸ hDp)
      exact t.fz a oo z (fun m => n (List.mem_filter.mp m).1) (by rw [offD_ne ne]; exact r)
  obtain ⟨yes, stop⟩ := itw p2 H2 (wipe σ vs) αw Aw R2 tr2 (dep_of lkw S2)
  by_cases lt : i < xs.length
  · right
    have hx : xs[i]? = some xs[i] := List.getElem?_eq_getElem lt
    obtain ⟨hgo, hy⟩ := yes i _ hx
    refine ⟨hgo, fun H' => ∃ m', m' < xs.length - i ∧ CmW K Acc (p.filter fun b => decide (b ≠ D)) (offD H D) (wipe σ vs) (lockA (wipeA α vs) dep) (wipeF A vs) vs mg mt mu xs done ys αe D (i + 1) m' H', fun H' z => z, fun v H3 y => ?_⟩
    obtain ⟨sm, dv⟩ := hy v H3 y
    rw [List.drop_eq_getElem_cons lt] at e7
    simp only [cmL, Option.bind_eq_some_iff] at e7
    obtain ⟨α3, f1, ⟨b, α4⟩, f2, f3⟩ := e7
    have R3 := R2.same sm
    have S3 : Step (p.filter fun b => decide (b ≠ D)) (offD H D) (wipe σ vs) (lockA (wipeA α vs) dep) (wipeF A vs) p2 H3 (wipe σ vs) αw Aw := S2.trans Rl (.same sm)
    obtain ⟨od, hod, hnd⟩ := ha.ob acc2
    have hD3 : H3 D = H2 D := by rw [hod]; exact sm D _ hod
    have acc3 := ha.mv acc2 (tr_same sm) hD3
    refine hg.go p2 H3 (wipe σ vs) αw Aw v xs[i] α3 _ R3 dv f1 fun σ3 A3 R4 S4 w4 => ?_
    rw [wipe_wipe] at w4
    refine ⟨w4, ?_⟩
    have S34 := S3.trans Rl S4
    have nD4 : ∀ i, D ∉ A3 i := fun j z => by
      rcases S4.new j D z with q | q
      · exact nD2 j q
      · rw [hD3, hod] at q; cases q
    refine ht.go p2 H3 σ3 α3 A3 b α4 _ R4 f2 fun p5 H5 A5 R5 S5 => ?_
    have S35 := S34.trans Rl S5
    have hD5 : H5 D = H2 D := by rw [hod]; exact (S5.keep D _ (noTup_tbl hnd) (hD3.trans hod) nD4).exp hDp2
    have nD5 : ∀ i, D ∉ A5 i := fun j z => by
      rcases S5.new j D z with q | q
      · exact nD4 j q
      · rw [hD3, hod] at q; cases q
    have hDp5 : D ∈ p5 := by
      rcases S5.mono D hDp2 with z | ⟨k, z⟩
      · exact z
      · exact (nD4 k z).elim
    have acc5 : Acc p5 H5 D (done ++ d2) := ha.mv acc3 (S5.tr R4) (hD5.trans hD3.symm)
    have noF : ∀ (β : AS), (∀ (i : Nat) (r : AV), β[i]? = some r → r.isFix = true → ∃ q, (lockA (wipeA α vs) dep)[i]? = some q ∧ q.isFix = true) → noFix β vs := fun β hh i m r e => by
      cases z : r.isFix with
      | false => rfl
      | true =>
        obtain ⟨q, q1, q2⟩ := hh i r e z
        rw [lockA_get, wipeA_get, if_pos m] at q1
        obtain ⟨x1, x2, rfl⟩ := Option.map_eq_some_iff.mp q1
        obtain ⟨x3, x4, rfl⟩ := Option.map_eq_some_iff.mp x2
        split at q2 <;> cases q2
    -- the turn's end
    have turn : ∀ p6 H6 A6 α6 ds rest', Rel K p6 H6 σ3 α6 A6 → Step (p.filter fun b => decide (b ≠ D)) (offD H D) (wipe σ vs) (lockA (wipeA α vs) dep) (wipeF A vs) p6 H6 σ3 α6 A6 → D ∈ p6 → (∀ i, D ∉ A6 i) → Acc p6 H6 D (done ++ ds) →
        cmL vs mg mt mu (xs.drop (i + 1)) (wipeA α6 vs) = some (rest', αe) → ds ++ rest' = ys →
        ∃ m', m' < xs.length - i ∧ CmW K Acc (p.filter fun b => decide (b ≠ D)) (offD H D) (wipe σ vs) (lockA (wipeA α vs) dep) (wipeF A vs) vs mg mt mu xs done ys αe D (i + 1) m' H6 := fun p6 H6 A6 α6 ds rest' R6 S6 h1 h2 h3 h4 h5 => by
      have nf := noF α6 S6.nof
      have Rw6 := rel_wipe R6 vs
      rw [w4] at Rw6
      have Sw6 : Step p6 H6 σ3 α6 A6 p6 H6 (wipe σ vs) (wipeA α6 vs) (wipeF A6 vs) := by
        have z := step_wipe (p := p6) (H := H6) (σ := σ3) (A := A6) vs nf
        rwa [w4] at z
      exact ⟨_, by omega, rfl, lt, p6, wipeA α6 vs, wipeF A6 vs, ds, rest', Rw6, S6.trans Rl Sw6, h1, fun j z => h2 j (wipeF_mem z).2, h3, h4, h5⟩
    cases b with
    | true =>
      refine iteT ?_
      simp only [if_true, Option.bind_eq_some_iff] at f3
      obtain ⟨⟨y1, α5⟩, f4, ⟨rest', αe'⟩, f5, f6⟩ := f3
      simp only [Option.some.injEq, Prod.mk.injEq] at f6
      obtain ⟨f6, f7⟩ := f6
      dsimp only at f5
      subst f7
      refine hu.go _ _ _ _ _ p5 H5 σ3 α4 A5 D (done ++ d2) y1 α5 _ Rl S35 offD_same R5 hDp5 nD5 acc5 f4 ?_ fun p6 H6 A6 R6 S6 h1 h2 h3 => ?_
      · have := congrArg List.length e8
        rw [← f6] at this
        simp only [List.length_append] at this ⊢
        omega
      · rw [List.append_assoc] at h3
        exact turn p6 H6 A6 α5 (d2 ++ y1) rest' R6 S6 h1 h2 h3 f5 (by rw [List.append_assoc, f6]; exact e8)
    | false =>
      refine iteF ?_
      simp only [Bool.false_eq_true, if_false] at f3
      exact turn p5 H5 A5 α4 d2 rest R5 S35 hDp5 nD5 acc5 f3 e8
  · left
    have ei : i = xs.length := by omega
    subst ei
    rw [List.drop_length] at e7
    simp only [cmL, Option.some.injEq, Prod.mk.injEq] at e7
    obtain ⟨rfl, rfl⟩ := e7
    refine ⟨stop, ?_⟩
    rw [List.append_nil] at e8
    subst e8
    have Rf := rel_free lkw S2 R2
    have Sf := step_free lkw S2
    obtain ⟨Rb, Sb⟩ := rel_back Rh hn Sf Rf (wipe_wipe vs)
    exact fin p2 H2 _ Rb (S0h.trans R0 Sb) hDp2 (fun j z => nD2 j (wipeF_mem z).2) acc2
def tCmp (wi : TI) (g : TG) (tt : TT) (u : L2.St → Hp → Addr → (Hp → Prop) → Prop) (vs : List Nat) (o : HO) : TE := fun σ H Q => wi σ H fun J H1 => ∀ D, H1 D = none → LoopB J g tt (fun σ H Nx => u σ H D Nx) vs σ (upd H1 D o) fun H' => Q (.ref D) H'
def uIn (wi : TI) (g : TG) (tt : TT) (u : L2.St → Hp → Addr → (Hp → Prop) → Prop) (vs : List Nat) : L2.St → Hp → Addr → (Hp → Prop) → Prop := fun σ H D Nx => wi σ H fun J H1 => LoopB J g tt (fun σ H Nx => u σ H D Nx) vs σ H1 Nx
def cmI {β : Type} (i : MI) (vs : List Nat) (g : MG) (tt : MT) (u : AS → Option (List β × AS)) : AS → Option (List β × AS) := fun α => (i α).bind fun x =>
  if noRoots x.2 vs ∧ (∀ i ∈ x.1.2, i ∉ vs) then (cmL vs g tt u x.1.1 (lockA (wipeA x.2 vs) x.1.2)).bind fun r => some (r.1, backA x.2 (freeA (wipeA x.2 vs) r.2 x.1.2) vs) else none
theorem ref_in {β : Type} {Acc : List Addr → Hp → Addr → List β → Prop} (ha : AccOk Acc) {w : TI} {g : TG} {tt : TT} {u : L2.St → Hp → Addr → (Hp → Prop) → Prop} {vs : List Nat} {mi : MI} {mg : MG} {mt : MT} {mu : AS → Option (List β × AS)}
    (hi : RefI K w mi) (hg : RefB K g mg vs) (ht : RefT K tt mt) (hu : RefC K Acc u mu) : RefC K Acc (uIn w g tt u vs) (cmI mi vs mg mt mu) :=
  ⟨fun p0 H0 σ0 α0 A0 p H σ α A D done ys α' Nx R0 S h0 R hDp nD acc e hl h => by
    simp only [cmI, Option.bind_eq_some_iff] at e
    obtain ⟨⟨⟨xs, dep⟩, α1⟩, e1, e2⟩ := e
    split at e2
    · rename_i hc
      simp only [Option.bind_eq_some_iff] at e2
      obtain ⟨⟨ys', αe⟩, e5, e6⟩ := e2
      cases e6
      refine hi.go p H σ α A (xs, dep) α1 _ R e1 fun p1 H1 A1 J R1 S1 it lkb => ?_
      obtain ⟨o, ho, hno⟩ := ha.ob acc
      have hD1 : H1 D = H D := by rw [ho]; exact (S1.keep D _ (noTup_tbl hno) ho nD).exp hDp
      have nD1 : ∀ i, D ∉ A1 i := fun j z => by
        rcases S1.new j D z with q | q
        · exact nD j q
        · rw [ho] at q; cases q
      have hDp1 : D ∈ p1 := by
        rcases S1.mono D hDp with z | ⟨k, z⟩
        · exact z
        · exact (nD k z).elim
      exact loop_core ha hg ht hu R0 (S.trans R0 S1) h0 R1 hDp1 nD1 (ha.mv acc (S1.tr R) hD1) it lkb hc.1 hc.2 e5 hl h
    · cases e2⟩
theorem cmp_core {β : Type} {Acc : List Addr → Hp → Addr → List β → Prop} (ha : AccOk Acc) {w : TI} {g : TG} {tt : TT} {u : L2.St → Hp → Addr → (Hp → Prop) → Prop} {vs : List Nat} {mi : MI} {mg : MG} {mt : MT} {mu : AS → Option (List β × AS)} {o : HO} {ys : List β} {Q : VK}
    (h0 : ∀ p H D, Acc (D :: p) (upd H D o) D []) (hi : RefI K w mi) (hg : RefB K g mg vs) (ht : RefT K tt mt) (hu : RefC K Acc u mu) (R : Rel K p H σ α A) (e : cmI mi vs mg mt mu α = some (ys, α')) (hl : ys.length ≤ LIM)
    (h : ∀ p' H' A' a, Rel K p' H' σ α' A' → Step p H σ α A p' H' σ α' A' → Fresh p' H A' [a] → Acc p' H' a ys → Q (.ref a) H') : tCmp w g tt u vs o σ H Q := by
  simp only [cmI, Option.bind_eq_some_iff] at e
  obtain ⟨⟨⟨xs, dep⟩, α1⟩, e1, e2⟩ := e
  split at e2
  · rename_i hc
    simp only [Option.bind_eq_some_iff] at e2
    obtain ⟨⟨ys', αe⟩, e5, e6⟩ := e2
    cases e6
    refine hi.go p H σ α A (xs, dep) α1 _ R e1 fun p1 H1 A1 J R1 S1 it lkb D hD => ?_
    obtain ⟨R2, S2, nr⟩ := rel_new (o := o) R1 hD
    refine loop_core ha hg ht hu R1 S2 hD R2 (List.mem_cons_self ..) nr (h0 p1 H1 D) (it.mono (tr_new hD (same_new hD))) lkb hc.1 hc.2 e5 (by simpa using hl) fun p' H' A' Rn Sn h1 h2 h3 => ?_
    exact h p' H' A' D Rn (S1.trans R Sn) (fresh_one h1 (S1.dom D hD) h2) h3
  · cases e2
def AccL (K : PySem.W.Frag) (p : List Addr) (H : Hp) (D : Addr) (done : List Da) : Prop := ∃ vs, H D = some (.lst vs) ∧ DzA K p H vs done
theorem accL : AccOk (AccL K) := ⟨fun ⟨vs, h1, h2⟩ t e => ⟨vs, by rw [e]; exact h1, h2.tr t⟩, fun ⟨vs, h1, _⟩ => ⟨_, h1, trivial⟩⟩
def uLc (te : TE) : L2.St → Hp → Addr → (Hp → Prop) → Prop := fun σ H D Nx => te σ H fun y H4 => ∃ acc, H4 D = some (.lst acc) ∧ acc.length < sizeLine ∧ Nx (upd H4 D (.lst (acc ++ [y])))
def mLc (me : ME) : AS → Option (List Da × AS) := fun α => (me α).bind fun l => (own l.2 l.1).bind fun y => some ([y], l.2)
theorem ref_uLc {te : TE} {me : ME} (he : RefE K te me) : RefC K (AccL K) (uLc te) (mLc me) :=
  ⟨fun p0 H0 σ0 α0 A0 p H σ α A D done ys α' Nx R0 S h0 R hDp nD acc e hl h => by
    simp only [mLc, Option.bind_eq_some_iff] at e
    obtain ⟨⟨l, α1⟩, e1, y, e2, e3⟩ := e
    cases e3
    refine he.go p H σ α A l α1 _ R e1 fun p1 H1 A1 v R1 S1 q => ?_
    obtain ⟨vs, hv, dz⟩ := acc
    have hD1 : H1 D = some (.lst vs) := (S1.keep D _ rfl hv nD).exp hDp
    have nD1 : ∀ i, D ∉ A1 i := fun j z => by
      rcases S1.new j D z with q | q
      · exact nD j q
      · rw [hv] at q; cases q
    have hDp1 : D ∈ p1 := by
      rcases S1.mono D hDp with z | ⟨k, z⟩
      · exact z
      · exact (nD k z).elim
    have lv : vs.length < LIM := by rw [dz.length]; simp only [List.length_cons, List.length_nil] at hl; omega
    refine ⟨vs, hD1, line_lt (Nat.le_of_lt lv), h p1 _ A1 (rel_upd R1 hDp1 hD1 trivial nD1) ((S.trans R0 S1).upd h0) hDp1 nD1 ⟨_, upd_same, ?_⟩⟩
    exact ((dz.tr (S1.tr R)).append (.cons (own_dz R1 q e2) .nil)).tr (tr_upd hDp1 hD1 trivial)⟩
def fLc (m : AS → Option (List Da × AS)) : MF := fun α => (m α).bind fun r => if r.1.length ≤ LIM then some (.r (.list r.1), r.2) else none
theorem ref_fLc {w : TI} {g : TG} {tt : TT} {u : L2.St → Hp → Addr → (Hp → Prop) → Prop} {vs : List Nat} {mi : MI} {mg : MG} {mt : MT} {mu : AS → Option (List Da × AS)} (hi : RefI K w mi) (hg : RefB K g mg vs) (ht : RefT K tt mt) (hu : RefC K (AccL K) u mu) :
    RefF K (tCmp w g tt u vs (.lst [])) (fLc (cmI mi vs mg mt mu)) := ⟨fun p H σ α A r α' Q R e h => by
  simp only [fLc, Option.bind_eq_some_iff] at e
  obtain ⟨⟨ys, α1⟩, e1, e2⟩ := e
  split at e2
  · rename_i hl
    cases e2
    refine cmp_core accL (fun p H D => ⟨[], upd_same, .nil⟩) hi hg ht hu R e1 hl fun p1 H1 A1 a R1 S1 fr acc => ?_
    obtain ⟨vs, h1, h2⟩ := acc
    exact h p1 H1 A1 a [] R1 S1 fr ⟨rfl, vs, h1, by rw [h2.length]; exact hl, h2⟩
  · cases e2⟩
def keyD : Da → Option Key
  | .int i => some (.inl i)
  | .str s => some (.inr s)
  | _ => none
def keysD : List Da → Option (List Key)
  | [] => some []
  | x :: r => (keyD x).bind fun k => (keysD r).bind fun ks => some (k :: ks)
def keyT : Da → Option (List Key)
  | .tuple xs => keysD xs
  | _ => none
end
end Vm
namespace Vm
open PySem PySem.Spec PyProof.Rows L2 Gk
inductive R1 where
  | d (x : Da)
  | w (r : Nw)
inductive Rv where
  | one (r : R1)
  | tup (rs : List R1)
def R1.da : R1 → Da
  | .d x => x
  | .w r => r.da
def Rv.da : Rv → Da
  | .one r => r.da
  | .tup rs => .tuple (rs.map R1.da)
/-- things handed back, some of them new own ones, with their addresses -/
inductive ResL (K : PySem.W.Frag) (p : List Addr) (H : Hp) : List V → List R1 → List Addr → Prop
  | nil : ResL K p H [] [] []
  | d {v : V} {x : Da} {vs : List V} {rs : List R1} {bs : List Addr} : Dz K p H v x → ResL K p H vs rs bs → ResL K p H (v :: vs) (.d x :: rs) bs
  | w {a : Addr} {as : List Addr} {r : Nw} {vs : List V} {rs : List R1} {bs : List Addr} : NewR K p H a as r → ResL K p H vs rs bs → ResL K p H (.ref a :: vs) (.w r :: rs) (a :: as ++ bs)
def ResR (K : PySem.W.Frag) (H0 : Hp) (p : List Addr) (H : Hp) (A : FT) (v : V) : Rv → Prop
  | .one r => ∃ as, ResL K p H [v] [r] as ∧ Fresh p H0 A as
  | .tup rs => ∃ t vs as, v = .ref t ∧ H t = some (.tup vs) ∧ vs.length ≤ LIM ∧ ResL K p H vs rs as ∧ Fresh p H0 A as
abbrev FV := List AV → Option (Rv × List AV)
def spV (K : PySem.W.Frag) (F : FV) : Sp := fun vs H Q _ => ∃ p as A r as', Rel K p H (vs.map some) as A ∧ F as = some (r, as') ∧
  ∀ p' H' A' v, Rel K p' H' (vs.map some) as' A' → Step p H (vs.map some) as A p' H' (vs.map some) as' A' → ResR K H p' H' A' v r → Q v H'
/-- the name stays with it -/
def AV.fixd : AV → AV
  | .r _ l x => .r true l x
  | .n _ l x => .n true l x
  | q => q
def AV.flag (q : AV) (f : Bool) : AV := match q with
  | .r _ l x => .r f l x
  | .n _ l x => .n f l x
  | q => q
def startA (n : Nat) (as : AS) : AS := as.map AV.fixd ++ List.replicate (n - as.length) .un
/-- the arguments as they stand behind the def -/
def backP (as α : AS) : AS := as.mapIdx fun i r => if r.isRoot = true then ((α[i]?).getD .un).flag r.isFix else r
def resL1 (α : AS) : Lc → Option R1
  | .d x => some (.d x)
  | .s i => (α[i]?).bind fun q => match q with
    | .d x => some (.d x)
    | .r false false x => some (.w (.r x))
    | .n false false x => some (.w (.n x))
    | _ => none
def resLs (α : AS) : List Lc → Option (List R1)
  | [] => some []
  | l :: ls => (resL1 α l).bind fun r => (resLs α ls).bind fun rs => some (r :: rs)
/-- the own things among these -/
def rootIx (α : AS) : Lc → Option Nat
  | .d _ => none
  | .s i => (α[i]?).bind fun q => if q.isRoot = true then some i else none
def resRL (α : AS) : RL → Option Rv
  | .one l => (resL1 α l).bind fun r => some (.one r)
  | .tup ls => (resLs α ls).bind fun rs => if (ls.filterMap (rootIx α)).Nodup then some (.tup rs) else none
  | .nw r => some (.one (.w r))
/-- a def of np parameters and n slots -/
def mDef (np n : Nat) (b : MS) : FV := fun as => if as.length = np then (b (startA n as)).bind fun o => match o with
    | .nx α => some (.one (.d .none), backP as α)
    | .rt l α => (resRL α l).bind fun r => some (r, backP as α)
    | _ => none
  else none
section
variable {K : PySem.W.Frag} {p p' p2 : List Addr} {H H' H2 : Hp} {σ σ' σ2 : L2.St} {α α' α2 α0 : AS} {A A' A2 : FT}
theorem backP_get {as α : AS} {i : Nat} : (backP as α)[i]? = (as[i]?).map fun r => if r.isRoot = true then ((α[i]?).getD .un).flag r.isFix else r := by
  unfold backP
  rw [List.getElem?_mapIdx]
theorem fixd_root (r : AV) : r.fixd.isRoot = r.isRoot := by cases r <;> rfl
theorem fixd_fix {r : AV} (h : r.isRoot = true) : r.fixd.isFix = true := by cases r <;> first | rfl | cases h
theorem slot_fixd {o : Option V} {f : List Addr} {r : AV} (h : SlotR K p H o f r) : SlotR K p H o f r.fixd := by cases r <;> exact h
theorem slot_flag {o : Option V} {f : List Addr} {r : AV} (b : Bool) (h : SlotR K p H o f r) : SlotR K p H o f (r.flag b) := by cases r <;> exact h
theorem flag_fix {r : AV} (f : Bool) (h : r.isRoot = true) : (r.flag f).isFix = f := by cases r <;> first | rfl | cases h
theorem getElem?_lt {τ : Type} {l : List τ} {i : Nat} {x : τ} (h : l[i]? = some x) : i < l.length := (List.getElem?_eq_some_iff.mp h).1
theorem get_of_lt {τ : Type} {l : List τ} {i : Nat} (h : i < l.length) : ∃ x, l[i]? = some x := ⟨l[i], List.getElem?_eq_getElem h⟩
theorem start_get_lt {N : List Str} {vs : List V} {i : Nat} (h : i < vs.length) : (start N vs)[i]? = (vs.map some)[i]? := by
  unfold L2.start
  rw [List.getElem?_append_left (by rw [List.length_map]; exact h)]
theorem startA_get_lt {n : Nat} {as : AS} {i : Nat} (h : i < as.length) : (startA n as)[i]? = (as[i]?).map AV.fixd := by
  unfold startA
  rw [List.getElem?_append_left (by rw [List.length_map]; exact h), List.getElem?_map]
theorem startA_get_ge {n : Nat} {as : AS} {i : Nat} {r : AV} (h : as.length ≤ i) (e : (startA n as)[i]? = some r) : r = .un := by
  unfold startA at e
  rw [List.getElem?_append_right (by rw [List.length_map]; exact h), List.getElem?_replicate] at e
  split at e
  · cases e; rfl
  · cases e
theorem rel_start {N : List Str} {vs : List V} {as : AS} (R : Rel K p H (vs.map some) as A) (hN : as.length ≤ N.length) : Rel K p H (start N vs) (startA N.length as) A := by
  have hl : vs.length = as.length := by have := R.len; rwa [List.length_map] at this
  refine ⟨by unfold L2.start startA; simp [hl], fun i r e => ?_, fun i e => ?_, R.nd, R.dj, R.inp, R.al, R.tb⟩
  · by_cases hi : i < as.length
    · rw [startA_get_lt hi] at e
      obtain ⟨q, e1, rfl⟩ := Option.map_eq_some_iff.mp e
      rw [start_get_lt (by omega)]
      exact slot_fixd (R.sl i q e1)
    · rw [startA_get_ge (by omega) e]
      exact R.out i (List.getElem?_eq_none_iff.mpr (by omega))
  · have : N.length ≤ i := by
      have := List.getElem?_eq_none_iff.mp e
      unfold startA at this
      rw [List.length_append, List.length_map, List.length_replicate] at this
      omega
    exact R.out i (List.getElem?_eq_none_iff.mpr (by omega))
theorem end_args {N : List Str} {vs : List V} {as : AS} (R : Rel K p H (vs.map some) as A) (hN : as.length ≤ N.length) (R' : Rel K p' H' σ' α' A') (S : Step p H (start N vs) (startA N.length as) A p' H' σ' α' A') :
    ∃ B, Rel K p' H' (vs.map some) (backP as α') B ∧ Step p H (vs.map some) as A p' H' (vs.map some) (backP as α') B ∧ (∀ i, B i = A' i ∨ B i = []) ∧ ∀ (i : Nat) (r : AV), as[i]? = some r → r.isRoot = true → B i = A' i := by
  have hl : vs.length = as.length := by have := R.len; rwa [List.length_map] at this
  have t := S.tr (rel_start R hN)
  have fx : ∀ (i : Nat) (r : AV), as[i]? = some r → r.isRoot = true → σ'[i]? = (vs.map some)[i]? ∧ ∃ r', α'[i]? = some r' ∧ Kin r.fixd r' := fun i r e hr => by
    have hi : i < as.length := getElem?_lt e
    obtain ⟨e1, r', e2, e3⟩ := S.fix i r.fixd (by rw [startA_get_lt hi, e]; rfl) (fixd_fix hr)
    exact ⟨by rw [e1, start_get_lt (by omega)], r', e2, e3⟩
  let B : FT := fun i => if (as[i]?).any AV.isRoot = true then A' i else []
  have Bm : ∀ i b, b ∈ B i → b ∈ A' i ∧ ∃ r, as[i]? = some r ∧ r.isRoot = true := fun i b m => by
    have m : b ∈ if (as[i]?).any AV.isRoot = true then A' i else [] := m
    split at m
    · rename_i h
      refine ⟨m, ?_⟩
      cases q : as[i]? with
      | none => rw [q] at h; cases h
      | some r => rw [q] at h; exact ⟨r, rfl, h⟩
    · exact (List.not_mem_nil m).elim
  have Bt : ∀ (i : Nat) (r : AV), as[i]? = some r → r.isRoot = true → B i = A' i := fun i r e h => by
    show (if (as[i]?).any AV.isRoot = true then A' i else []) = A' i
    rw [e, Option.any_some, if_pos h]
  have Bf : ∀ (i : Nat) (r : AV), as[i]? = some r → r.isRoot ≠ true → B i = [] := fun i r e h => by
    show (if (as[i]?).any AV.isRoot = true then A' i else []) = []
    rw [e, Option.any_some, if_neg h]
  refine ⟨B, ⟨by rw [R.len]; unfold backP; rw [List.length_mapIdx], fun i q h2 => ?_, fun i h => ?_, fun i => ?_, fun i j a h1 h2 => R'.dj i j a (Bm i a h1).1 (Bm j a h2).1, fun i a h => R'.inp i a (Bm i a h).1, R'.al, R'.tb⟩,
    ⟨S.keep, S.dom, fun i b h => S.new i b (Bm i b h).1, S.sub, S.mono, by unfold backP; rw [List.length_mapIdx], fun i r h f => ⟨rfl, ?_⟩, fun i q h f => ?_⟩, fun i => ?_, Bt⟩
  · rw [backP_get] at h2
    obtain ⟨r, e, rfl⟩ := Option.map_eq_some_iff.mp h2
    by_cases hr : r.isRoot = true
    · rw [if_pos hr, Bt i r e hr]
      obtain ⟨e1, r', e2, e3⟩ := fx i r e hr
      rw [e2, ← e1]
      exact slot_flag _ (R'.sl i r' e2)
    · rw [if_neg hr, Bf i r e hr]
      have z := R.sl i r e
      have a0 : A i = [] := by
        cases r with
        | un => exact z
        | d x => exact z.1
        | sc x => exact z.1
        | g x => exact z.1
        | r a b c => exact (hr rfl).elim
        | n a b c => exact (hr rfl).elim
      rw [a0] at z
      exact z.tr t fun c m => (List.not_mem_nil m).elim
  · rw [backP_get] at h
    have e := Option.map_eq_none_iff.mp h
    show (if (as[i]?).any AV.isRoot = true then A' i else []) = []
    rw [e]
    rfl
  · show List.Nodup (if (as[i]?).any AV.isRoot = true then A' i else [])
    split
    · exact R'.nd i
    · exact .nil
  · have hr := isRoot_of_isFix f
    obtain ⟨e1, r', e2, e3⟩ := fx i r h hr
    refine ⟨r'.flag r.isFix, by rw [backP_get, h]; simp only [Option.map_some, if_pos hr, e2, Option.getD_some], ?_⟩
    have efx : r.fixd = r := by
      cases r with
      | r a b c => cases f; rfl
      | n a b c => cases f; rfl
      | _ => rfl
    rw [efx] at e3
    have erf : r'.flag r.isFix = r' := by
      have z := e3.fx
      cases r' with
      | r a b c => rw [← z]; rfl
      | n a b c => rw [← z]; rfl
      | _ => rfl
    rw [erf]
    exact e3
  · rw [backP_get] at h
    obtain ⟨r, e, rfl⟩ := Option.map_eq_some_iff.mp h
    by_cases hr : r.isRoot = true
    · rw [if_pos hr] at f
      obtain ⟨e1, r', e2, e3⟩ := fx i r e hr
      rw [e2] at f
      have f' : (r'.flag r.isFix).isFix = true := f
      rw [flag_fix _ (by rw [e3.rt, fixd_root]; exact hr)] at f'
      exact ⟨r, e, f'⟩
    · rw [if_neg hr] at f
      exact ⟨r, e, f⟩
  · show (if (as[i]?).any AV.isRoot = true then A' i else []) = A' i ∨ (if (as[i]?).any AV.isRoot = true then A' i else []) = []
    split
    · exact .inl rfl
    · exact .inr rfl
/-- a slot of the def's own, handed back: new -/
theorem own_fresh {N : List Str} {vs : List V} {as : AS} {B : FT} {i : Nat} {q : AV} (R : Rel K p H (vs.map some) as A) (hN : as.length ≤ N.length) (R' : Rel K p' H' σ' α' A') (S : Step p H (start N vs) (startA N.length as) A p' H' σ' α' A')
    (hB : ∀ i, B i = A' i ∨ B i = []) (hBr : ∀ (i : Nat), (∀ r, as[i]? = some r → r.isRoot = false) → B i = []) (hq : α'[i]? = some q) (hr : q.isRoot = true) (hf : q.isFix = false) :
    (∀ b ∈ A' i, H b = none) ∧ (∀ b ∈ A' i, ∀ j, b ∉ B j) := by
  have noroot : ∀ r, as[i]? = some r → r.isRoot = false := fun r e => by
    cases z : r.isRoot with
    | false => rfl
    | true =>
      have hi : i < as.length := getElem?_lt e
      obtain ⟨_, r', e2, e3⟩ := S.fix i r.fixd (by rw [startA_get_lt hi, e]; rfl) (fixd_fix z)
      rw [hq] at e2
      cases e2
      rw [e3.fx, fixd_fix z] at hf
      cases hf
  have a0 : A i = [] := by
    cases e : as[i]? with
    | none => exact R.out i e
    | some r =>
      have z := R.sl i r e
      have n := noroot r e
      cases r with
      | un => exact z
      | d x => exact z.1
      | sc x => exact z.1
      | g x => exact z.1
      | r a b c => cases n
      | n a b c => cases n
  refine ⟨fun b m => ?_, fun b m j mj => ?_⟩
  · rcases S.new i b m with z | z
    · rw [a0] at z; exact (List.not_mem_nil z).elim
    · exact z
  · rcases hB j with z | z
    · rw [z] at mj
      have e := R'.dj i j b m mj
      subst e
      rw [hBr i noroot] at z
      rw [← z] at mj
      exact List.not_mem_nil mj
    · rw [z] at mj; exact List.not_mem_nil mj
theorem res_one {v : V} {l : Lc} {r : R1} (R' : Rel K p' H' σ' α' A') (h : LocR K p' H' σ' v l) (e : resL1 α' l = some r) :
    (∃ x, r = .d x ∧ Dz K p' H' v x) ∨ ∃ i q a as w, l = .s i ∧ α'[i]? = some q ∧ q.isRoot = true ∧ q.isFix = false ∧ v = .ref a ∧ A' i = a :: as ∧ r = .w w ∧ NewR K p' H' a as w := by
  cases l with
  | d x => cases e; exact .inl ⟨x, rfl, h⟩
  | s i =>
    have h' : σ'[i]? = some (some v) := h
    simp only [resL1, Option.bind_eq_some_iff] at e
    obtain ⟨q, e1, e2⟩ := e
    have z := R'.sl i q e1
    rw [join_of h'] at z
    split at e2
    · cases e2; obtain ⟨_, w, e3, e4⟩ := z; cases e3; exact .inl ⟨_, rfl, e4⟩
    · cases e2; obtain ⟨a, e3, e4, e5⟩ := z; cases e3; exact .inr ⟨i, _, a, [], _, rfl, e1, rfl, rfl, rfl, e4, rfl, rfl, e5⟩
    · cases e2; obtain ⟨a, as, e3, e4, e5⟩ := z; cases e3; exact .inr ⟨i, _, a, as, _, rfl, e1, rfl, rfl, rfl, e4, rfl, e5⟩
    · cases e2
theorem res_many (R' : Rel K p' H' σ' α' A') : ∀ {vs : List V} {ls : List Lc} {rs : List R1}, LocA K p' H' σ' vs ls → resLs α' ls = some rs → (ls.filterMap (rootIx α')).Nodup →
    ∃ as, ResL K p' H' vs rs as ∧ as.Nodup ∧ ∀ b ∈ as, ∃ i q, .s i ∈ ls ∧ i ∈ ls.filterMap (rootIx α') ∧ α'[i]? = some q ∧ q.isRoot = true ∧ q.isFix = false ∧ b ∈ A' i
  | [], [], _, .nil, e, _ => by cases e; exact ⟨[], .nil, .nil, fun b m => (List.not_mem_nil m).elim⟩
  | v :: vs0, l :: ls0, _, .cons h t, e, nd => by
    simp only [resLs, Option.bind_eq_some_iff] at e
    obtain ⟨r, e1, rs, e2, e3⟩ := e
    cases e3
    have nd' := nd
    rw [List.filterMap_cons] at nd'
    have nds : (List.filterMap (rootIx α') ls0).Nodup := by
      split at nd'
      · exact nd'
      · exact (List.nodup_cons.mp nd').2
    obtain ⟨as, q1, q2, q3⟩ := res_many R' t e2 nds
    have wid : ∀ b ∈ as, ∃ i q, .s i ∈ l :: ls0 ∧ i ∈ (l :: ls0).filterMap (rootIx α') ∧ α'[i]? = some q ∧ q.isRoot = true ∧ q.isFix = false ∧ b ∈ A' i := fun b m => by
      obtain ⟨i, q, w1, w2, w3⟩ := q3 b m
      refine ⟨i, q, List.mem_cons_of_mem _ w1, ?_, w3⟩
      rw [List.filterMap_cons]
      split
      · exact w2
      · exact List.mem_cons_of_mem _ w2
    rcases res_one R' h e1 with ⟨x, rfl, dz⟩ | ⟨i, q, a, as1, w, rfl, hq, hr, hf, rfl, ha, rfl, nw⟩
    · exact ⟨as, .d dz q1, q2, wid⟩
    · have ri : rootIx α' (.s i) = some i := by simp only [rootIx, hq, Option.bind_some, if_pos hr]
      rw [ri] at nd'
      have ni := (List.nodup_cons.mp nd').1
      refine ⟨a :: as1 ++ as, .w nw q1, ?_, fun b m => ?_⟩
      · rw [← ha]
        refine List.nodup_append.mpr ⟨R'.nd i, q2, fun x hx y hy e => ?_⟩
        subst e
        obtain ⟨j, _, _, w2, _, _, _, w3⟩ := q3 x hy
        have := R'.dj i j x hx w3
        subst this
        exact ni w2
      · rw [← ha] at m
        rcases List.mem_append.mp m with m | m
        · refine ⟨i, q, List.mem_cons_self .., ?_, hq, hr, hf, m⟩
          rw [List.filterMap_cons, ri]
          exact List.mem_cons_self ..
        · exact wid b m
/-- a def's body, by its function -/
theorem body_ok {N : List Str} {vs : List V} {np : Nat} {b : MS} {t : TS} {Q : VK} {E : XK} (hb : RefS K t b) (hN : np ≤ N.length) (h : spV K (mDef np N.length b) vs H Q E) :
    t { nx := fun _ H' => Q .non H', rt := Q } (start N vs) H := by
  obtain ⟨p, as, A, r, as', R, e, q⟩ := h
  unfold mDef at e
  split at e
  · rename_i hnp
    simp only [Option.bind_eq_some_iff] at e
    obtain ⟨o, e1, e2⟩ := e
    have hN' : as.length ≤ N.length := by omega
    refine hb.go p H _ _ A o _ (rel_start R hN') e1 ?_
    cases o with
    | nx α =>
      cases e2
      intro p1 H1 σ1 A1 R1 S1
      obtain ⟨B, RB, SB, _, _⟩ := end_args R hN' R1 S1
      exact q p1 H1 B .non RB SB ⟨[], .d .non .nil, fun b m => (List.not_mem_nil m).elim, fun b m => (List.not_mem_nil m).elim, fun b m => (List.not_mem_nil m).elim, .nil⟩
    | rt l α =>
      simp only [Option.bind_eq_some_iff] at e2
      obtain ⟨r', e3, e4⟩ := e2
      cases e4
      intro p1 H1 σ1 A1 v R1 S1 z
      obtain ⟨B, RB, SB, hB, hBt⟩ := end_args R hN' R1 S1
      have hBr : ∀ (i : Nat), (∀ r, as[i]? = some r → r.isRoot = false) → B i = [] := fun i h => by
        cases e : as[i]? with
        | none =>
          apply RB.out i
          rw [backP_get, e]
          rfl
        | some x =>
          have n := h x e
          have z := RB.sl i x (by rw [backP_get, e]; simp only [Option.map_some]; rw [if_neg (by rw [n]; simp)])
          cases x with
          | un => exact z
          | d x => exact z.1
          | sc x => exact z.1
          | g x => exact z.1
          | r a b c => cases n
          | n a b c => cases n
      refine q p1 H1 B v RB SB ?_
      cases l with
      | one l =>
        simp only [resRL, Option.bind_eq_some_iff] at e3
        obtain ⟨r1, e5, e6⟩ := e3
        cases e6
        rcases res_one R1 z e5 with ⟨x, rfl, dz⟩ | ⟨i, q, a, as1, w, rfl, hq, hr, hf, rfl, ha, rfl, nw⟩
        · exact ⟨[], .d dz .nil, fun b m => (List.not_mem_nil m).elim, fun b m => (List.not_mem_nil m).elim, fun b m => (List.not_mem_nil m).elim, .nil⟩
        · obtain ⟨f1, f2⟩ := own_fresh R hN' R1 S1 hB hBr hq hr hf
          refine ⟨a :: as1 ++ [], .w nw .nil, ?_⟩
          rw [List.append_nil, ← ha]
          exact ⟨fun b m => R1.inp i b m, f1, f2, R1.nd i⟩
      | tup ls =>
        simp only [resRL, Option.bind_eq_some_iff] at e3
        obtain ⟨rs, e5, e6⟩ := e3
        split at e6
        · rename_i nd
          cases e6
          obtain ⟨t, us, rfl, ht, hl, hz⟩ := z
          obtain ⟨as1, q1, q2, q3⟩ := res_many R1 hz e5 nd
          refine ⟨t, us, as1, rfl, ht, hl, q1, fun b m => ?_, fun b m => ?_, fun b m => ?_, q2⟩
          · obtain ⟨i, q, _, _, hq, hr, hf, mb⟩ := q3 b m
            exact R1.inp i b mb
          · obtain ⟨i, q, _, _, hq, hr, hf, mb⟩ := q3 b m
            exact (own_fresh R hN' R1 S1 hB hBr hq hr hf).1 b mb
          · obtain ⟨i, q, _, _, hq, hr, hf, mb⟩ := q3 b m
            exact (own_fresh R hN' R1 S1 hB hBr hq hr hf).2 b mb
        · cases e6
      | nw r =>
        cases e3
        obtain ⟨a, as1, rfl, fr, nw⟩ := z
        refine ⟨a :: as1 ++ [], .w nw .nil, ?_⟩
        rw [List.append_nil]
        refine ⟨fr.inp, fr.non, fun b m j mj => ?_, fr.nd⟩
        rcases hB j with y | y
        · rw [y] at mj; exact fr.noA b m j mj
        · rw [y] at mj; exact List.not_mem_nil mj
    | bk α => cases e2
    | ct α => cases e2
  · cases e
theorem spV_len {np n : Nat} {b : MS} {vs : List V} {Q : VK} {E : XK} (h : spV K (mDef np n b) vs H Q E) : vs.length = np := by
  obtain ⟨p, as, A, r, as', R, e, _⟩ := h
  unfold mDef at e
  split at e
  · rename_i z
    have := R.len
    rw [List.length_map] at this
    omega
  · cases e
end
end Vm
namespace Vm
open PySem PySem.Spec PyProof.Rows L2 Gk
section
variable {K : PySem.W.Frag} {p p' p2 : List Addr} {H H' H2 : Hp} {σ σ' σ2 : L2.St} {α α' α2 α0 : AS} {A A' A2 : FT}
def argOf (α : AS) : Lc → Option AV
  | .d x => some (.d x)
  | .s i => (α[i]?).bind fun q => match q with
    | .un => none
    | q => some q
def argsOf (α : AS) : List Lc → Option (List AV)
  | [] => some []
  | l :: r => (argOf α l).bind fun x => (argsOf α r).bind fun xs => some (x :: xs)
def isS (k : Nat) : Lc → Bool
  | .s i => decide (i = k)
  | .d _ => false
def putBack (α : AS) (ls : List Lc) (as : List AV) : AS := α.mapIdx fun k r => if r.isRoot = true then (match ls.findIdx? (isS k) with
  | some i => (as[i]?).getD r
  | none => r) else r
def callM (F : FV) (α : AS) (ls : List Lc) : Option (Rv × AS) := (argsOf α ls).bind fun as => (F as).bind fun r => if (ls.filterMap (rootIx α)).Nodup then some (r.1, putBack α ls r.2) else none
theorem argsOf_get : ∀ {ls : List Lc} {as : List AV}, argsOf α ls = some as → as.length = ls.length ∧ ∀ (i : Nat) (l : Lc), ls[i]? = some l → ∃ a, as[i]? = some a ∧ argOf α l = some a
  | [], as, e => by cases e; exact ⟨rfl, fun i l h => by simp at h⟩
  | l :: ls, as, e => by
    simp only [argsOf, Option.bind_eq_some_iff] at e
    obtain ⟨x, e1, xs, e2, e3⟩ := e
    cases e3
    obtain ⟨h1, h2⟩ := argsOf_get e2
    refine ⟨congrArg (· + 1) h1, fun i m h => ?_⟩
    cases i with
    | zero => cases h; exact ⟨x, rfl, e1⟩
    | succ i => exact h2 i m (by simpa using h)
theorem argOf_s {k : Nat} {a : AV} (h : argOf α (.s k) = some a) : α[k]? = some a ∧ a ≠ .un := by
  simp only [argOf, Option.bind_eq_some_iff] at h
  obtain ⟨r, e1, e2⟩ := h
  cases r <;> cases e2 <;> exact ⟨e1, by intro z; cases z⟩
theorem locA_get {vs : List V} {ls : List Lc} (h : LocA K p H σ vs ls) : vs.length = ls.length ∧ ∀ (i : Nat) (l : Lc), ls[i]? = some l → ∃ v, vs[i]? = some v ∧ LocR K p H σ v l := by
  induction h with
  | nil => exact ⟨rfl, fun i l h => by simp at h⟩
  | cons h t ih =>
    refine ⟨congrArg (· + 1) ih.1, fun i l e => ?_⟩
    cases i with
    | zero => cases e; exact ⟨_, rfl, h⟩
    | succ i => exact ih.2 i l (by simpa using e)
theorem nodup_fm {τ : Type} {f : τ → Option Nat} : ∀ {l : List τ}, (l.filterMap f).Nodup → ∀ {i j : Nat} {x y : τ} {k : Nat}, l[i]? = some x → l[j]? = some y → f x = some k → f y = some k → i = j
  | [], _, i, _, _, _, _, h, _, _, _ => by simp at h
  | a :: l, nd, 0, 0, _, _, _, _, _, _, _ => rfl
  | a :: l, nd, 0, j + 1, x, y, k, h1, h2, e1, e2 => by
    exfalso
    cases h1
    rw [List.filterMap_cons, e1] at nd
    have h2' : l[j]? = some y := by simpa using h2
    exact (List.nodup_cons.mp nd).1 (List.mem_filterMap.mpr ⟨y, List.mem_of_getElem? h2', e2⟩)
  | a :: l, nd, i + 1, 0, x, y, k, h1, h2, e1, e2 => by
    exfalso
    cases h2
    rw [List.filterMap_cons, e2] at nd
    have h1' : l[i]? = some x := by simpa using h1
    exact (List.nodup_cons.mp nd).1 (List.mem_filterMap.mpr ⟨x, List.mem_of_getElem? h1', e1⟩)
  | a :: l, nd, i + 1, j + 1, x, y, k, h1, h2, e1, e2 => by
    have nd' : (l.filterMap f).Nodup := by
      rw [List.filterMap_cons] at nd
      split at nd
      · exact nd
      · exact (List.nodup_cons.mp nd).2
    exact congrArg (· + 1) (nodup_fm nd' (by simpa using h1) (by simpa using h2) e1 e2)
theorem findIdx?_isS {k : Nat} : ∀ {ls : List Lc} {i : Nat}, ls.findIdx? (isS k) = some i → ls[i]? = some (.s k)
  | [], _, h => by simp at h
  | l :: ls, i, h => by
    rw [List.findIdx?_cons] at h
    split at h
    · rename_i hl
      cases h
      cases l with
      | d x => cases hl
      | s j => cases (of_decide_eq_true hl : j = k); rfl
    · obtain ⟨j, hj, rfl⟩ := Option.map_eq_some_iff.mp h
      have := findIdx?_isS hj
      simpa using this
theorem findIdx?_none {k : Nat} : ∀ {ls : List Lc}, ls.findIdx? (isS k) = none → ∀ i : Nat, ls[i]? ≠ some (Lc.s k)
  | [], _, i, e => by simp at e
  | l :: ls, h, i, e => by
    rw [List.findIdx?_cons] at h
    split at h
    · cases h
    · rename_i hl
      have h' := Option.map_eq_none_iff.mp h
      cases i with
      | zero => cases e; exact hl (decide_eq_true rfl)
      | succ i => exact findIdx?_none h' i (by simpa using e)
def argF (ls : List Lc) (A : FT) : FT := fun i => match ls[i]? with
  | some (.s k) => A k
  | _ => []
def pbF (α : AS) (ls : List Lc) (A B : FT) : FT := fun k => if (α[k]?).any AV.isRoot = true then (match ls.findIdx? (isS k) with
  | some i => B i
  | none => A k) else A k
theorem argF_mem {ls : List Lc} {i : Nat} {b : Addr} (h : b ∈ argF ls A i) : ∃ k, ls[i]? = some (.s k) ∧ b ∈ A k := by
  unfold argF at h
  split at h
  · exact ⟨_, by assumption, h⟩
  · exact (List.not_mem_nil h).elim
theorem slot_nil {o : Option V} {f : List Addr} {r : AV} (h : SlotR K p H o f r) (n : r.isRoot = false) : f = [] := by
  cases r with
  | un => exact h
  | d x => exact h.1
  | sc x => exact h.1
  | g x => exact h.1
  | r a b c => cases n
  | n a b c => cases n
theorem call_core {F : FV} {vs : List V} {ls : List Lc} {r : Rv} {Q : VK} {E : XK} (R : Rel K p H σ α A) (hl : LocA K p H σ vs ls) (e : callM F α ls = some (r, α'))
    (h : ∀ p' H' A' v, Rel K p' H' σ α' A' → Step p H σ α A p' H' σ α' A' → ResR K H p' H' A' v r → Q v H') : spV K F vs H Q E := by
  simp only [callM, Option.bind_eq_some_iff] at e
  obtain ⟨as, e1, ⟨r0, as'⟩, e2, e3⟩ := e
  split at e3
  · rename_i nd
    cases e3
    obtain ⟨la, ga⟩ := argsOf_get e1
    obtain ⟨lv, gv⟩ := locA_get hl
    have uni : ∀ (i j k : Nat), ls[i]? = some (.s k) → ls[j]? = some (.s k) → ∀ b, b ∈ A k → i = j := fun i j k h1 h2 b m => by
      obtain ⟨q, hq⟩ := R.has_slot m
      have hr : q.isRoot = true := by
        cases z : q.isRoot with
        | true => rfl
        | false => have := slot_nil (R.sl k q hq) z; rw [this] at m; exact (List.not_mem_nil m).elim
      have ri : rootIx α (.s k) = some k := by simp only [rootIx, hq, Option.bind_some, if_pos hr]
      exact nodup_fm nd h1 h2 ri ri
    have RA : Rel K p H (vs.map some) as (argF ls A) := by
      refine ⟨by rw [List.length_map, lv, la], fun i x h2 => ?_, fun i h => ?_, fun i => ?_, fun i j a h1 h2 => ?_, fun i a h => ?_, R.al, R.tb⟩
      · obtain ⟨l, hl1⟩ := get_of_lt (l := ls) (i := i) (by have := getElem?_lt h2; omega)
        obtain ⟨y, y1, y2⟩ := ga i l hl1
        obtain ⟨v, v1, v2⟩ := gv i l hl1
        rw [h2] at y1
        cases y1
        rw [List.getElem?_map, v1]
        cases l with
        | d z =>
          cases y2
          have : argF ls A i = [] := by unfold argF; rw [hl1]
          rw [this]
          exact ⟨rfl, v, rfl, v2⟩
        | s k =>
          have : argF ls A i = A k := by unfold argF; rw [hl1]
          rw [this]
          have z := R.sl k x (argOf_s y2).1
          rw [join_of v2] at z
          exact z
      · have : ls[i]? = none := List.getElem?_eq_none_iff.mpr (by have := List.getElem?_eq_none_iff.mp h; omega)
        unfold argF
        rw [this]
      · unfold argF
        split
        · exact R.nd _
        · exact .nil
      · obtain ⟨k, k1, k2⟩ := argF_mem h1
        obtain ⟨m, m1, m2⟩ := argF_mem h2
        have e := R.dj k m a k2 m2
        subst e
        exact uni i j k k1 m1 a k2
      · obtain ⟨k, k1, k2⟩ := argF_mem h
        exact R.inp k a k2
    refine ⟨p, as, argF ls A, _, as', RA, e2, fun p1 H1 B v R1 S1 rr => ?_⟩
    have t := S1.tr RA
    have fi : ∀ {k i : Nat}, ls.findIdx? (isS k) = some i → ls[i]? = some (.s k) ∧ argF ls A i = A k := fun {k i} hh => by
      have z := findIdx?_isS hh
      exact ⟨z, by unfold argF; rw [z]⟩
    have fn : ∀ {k : Nat}, ls.findIdx? (isS k) = none → ∀ b ∈ A k, ∀ i, b ∉ argF ls A i := fun {k} hh b m i z => by
      obtain ⟨k', k1, k2⟩ := argF_mem z
      have := R.dj k k' b m k2
      subst this
      exact findIdx?_none hh i k1
    have pr : ∀ {k : Nat} {q : AV}, α[k]? = some q → q.isRoot = true → pbF α ls A B k = match ls.findIdx? (isS k) with
        | some i => B i
        | none => A k := fun {k q} hq hr => by unfold pbF; rw [hq, Option.any_some, if_pos hr]
    have pn : ∀ {k : Nat} {q : AV}, α[k]? = some q → q.isRoot = false → pbF α ls A B k = [] := fun {k q} hq hr => by unfold pbF; rw [hq, Option.any_some, if_neg (by rw [hr]; simp)]; exact slot_nil (R.sl k q hq) hr
    have pm : ∀ {k : Nat} {b : Addr}, b ∈ pbF α ls A B k → (∃ i, ls.findIdx? (isS k) = some i ∧ b ∈ B i) ∨ (ls.findIdx? (isS k) = none ∧ b ∈ A k) := fun {k b} m => by
      cases hq : α[k]? with
      | none => unfold pbF at m; rw [hq] at m; simp only [Option.any_none, Bool.false_eq_true, if_false] at m; rw [R.out k hq] at m; exact (List.not_mem_nil m).elim
      | some q =>
        cases hr : q.isRoot with
        | false => rw [pn hq hr] at m; exact (List.not_mem_nil m).elim
        | true =>
          rw [pr hq hr] at m
          cases hh : ls.findIdx? (isS k) with
          | some i => rw [hh] at m; exact .inl ⟨i, rfl, m⟩
          | none => rw [hh] at m; exact .inr ⟨rfl, m⟩
    have pg : ∀ k, (putBack α ls as')[k]? = (α[k]?).map fun r => if r.isRoot = true then (match ls.findIdx? (isS k) with
        | some i => (as'[i]?).getD r
        | none => r) else r := fun k => by unfold putBack; rw [List.getElem?_mapIdx]
    have la' : as'.length = as.length := S1.ln
    -- a slot that was handed in
    have inn : ∀ {k i : Nat} {q : AV}, α[k]? = some q → ls.findIdx? (isS k) = some i → ∃ y, as'[i]? = some y ∧ as[i]? = some q := fun {k i q} hq hh => by
      obtain ⟨z1, z3⟩ := fi hh
      obtain ⟨a, a1, a2⟩ := ga i _ z1
      obtain ⟨b1, _⟩ := argOf_s a2
      rw [hq] at b1
      cases b1
      obtain ⟨y, hy⟩ := get_of_lt (l := as') (i := i) (by have := getElem?_lt a1; omega)
      exact ⟨y, hy, a1⟩
    refine h p1 H1 (pbF α ls A B) v ⟨by unfold putBack; rw [List.length_mapIdx]; exact R.len, fun k x h2 => ?_, fun k hk => ?_, fun k => ?_, fun k m a h1 h2 => ?_, fun k a hm => ?_, R1.al, R1.tb⟩
      ⟨fun b o ht eb n => S1.keep b o ht eb fun i z => ?_, S1.dom, fun k b z => ?_, S1.sub, fun b m => ?_, by unfold putBack; rw [List.length_mapIdx], fun k x ek f => ⟨rfl, ?_⟩, fun k x ek f => ?_⟩ ?_
    · rw [pg] at h2
      obtain ⟨q, hq, rfl⟩ := Option.map_eq_some_iff.mp h2
      have old : (∀ c ∈ A k, ∀ u, H c = some u → H1 c = some u) → SlotR K p1 H1 (σ[k]?).join (A k) q := fun hk => (R.sl k q hq).tr t hk
      by_cases hr : q.isRoot = true
      · rw [if_pos hr, pr hq hr]
        cases hh : ls.findIdx? (isS k) with
        | some i =>
          obtain ⟨z1, z3⟩ := fi hh
          obtain ⟨y, hy, _⟩ := inn hq hh
          dsimp only
          rw [hy]
          have z := R1.sl i y hy
          obtain ⟨w, w1, w2⟩ := gv i _ z1
          have w2' : σ[k]? = some (some w) := w2
          rw [List.getElem?_map, w1] at z
          rw [w2']
          exact z
        | none =>
          dsimp only
          exact old fun c m u eu => (S1.keep c u (R.own_tbl m eu) eu (fn hh c m)).exp (R.inp k c m)
      · rw [if_neg hr]
        have hr' : q.isRoot = false := by simpa using hr
        have a0 := slot_nil (R.sl k q hq) hr'
        rw [pn hq hr', ← a0]
        exact old fun c m => by rw [a0] at m; exact (List.not_mem_nil m).elim
    · rw [pg] at hk
      have hq := Option.map_eq_none_iff.mp hk
      unfold pbF
      rw [hq]
      exact R.out k hq
    · unfold pbF
      split
      · split
        · exact R1.nd _
        · exact R.nd k
      · exact R.nd k
    · rcases pm h1 with ⟨i, f1, m1⟩ | ⟨f1, m1⟩ <;> rcases pm h2 with ⟨j, f2, m2⟩ | ⟨f2, m2⟩
      · have := R1.dj i j a m1 m2
        subst this
        have a1 := (fi f1).1
        rw [(fi f2).1] at a1
        cases a1
        rfl
      · rcases S1.new i a m1 with z | z
        · rw [(fi f1).2] at z; exact R.dj k m a z m2
        · exact (R.in_al m2 z).elim
      · rcases S1.new j a m2 with z | z
        · rw [(fi f2).2] at z; exact R.dj k m a m1 z
        · exact (R.in_al m1 z).elim
      · exact R.dj k m a m1 m2
    · rcases pm hm with ⟨i, f1, m1⟩ | ⟨f1, m1⟩
      · exact R1.inp i a m1
      · rcases S1.mono a (R.inp k a m1) with z | ⟨i, z⟩
        · exact z
        · exact (fn f1 a m1 i z).elim
    · obtain ⟨k, _, k2⟩ := argF_mem z
      exact n k k2
    · rcases pm z with ⟨i, f1, m1⟩ | ⟨f1, m1⟩
      · rcases S1.new i b m1 with z | z
        · rw [(fi f1).2] at z; exact .inl z
        · exact .inr z
      · exact .inl m1
    · rcases S1.mono b m with z | ⟨i, z⟩
      · exact .inl z
      · obtain ⟨k, _, k2⟩ := argF_mem z
        exact .inr ⟨k, k2⟩
    · have hr := isRoot_of_isFix f
      cases hh : ls.findIdx? (isS k) with
      | none => exact ⟨x, by rw [pg, ek, hh]; simp only [Option.map_some, ite_self], .refl⟩
      | some i =>
        obtain ⟨y, hy, hx⟩ := inn ek hh
        obtain ⟨_, y', hy', kin⟩ := S1.fix i x hx f
        rw [hy] at hy'
        cases hy'
        exact ⟨y, by rw [pg, ek, hh]; simp only [Option.map_some, if_pos hr, hy, Option.getD_some], kin⟩
    · rw [pg] at ek
      obtain ⟨q, hq, rfl⟩ := Option.map_eq_some_iff.mp ek
      refine ⟨q, hq, ?_⟩
      by_cases hr : q.isRoot = true
      · rw [if_pos hr] at f
        cases hh : ls.findIdx? (isS k) with
        | none => rw [hh] at f; exact f
        | some i =>
          obtain ⟨y, hy, hx⟩ := inn hq hh
          rw [hh] at f
          dsimp only at f
          rw [hy] at f
          obtain ⟨q', e1, e2⟩ := S1.nof i y hy f
          rw [hx] at e1
          cases e1
          exact e2
      · rw [if_neg hr] at f; exact f
    · have fr : ∀ bs, Fresh p1 H B bs → Fresh p1 H (pbF α ls A B) bs := fun bs fr => by
        refine ⟨fr.inp, fr.non, fun b m k z => ?_, fr.nd⟩
        rcases pm z with ⟨i, f1, m1⟩ | ⟨f1, m1⟩
        · exact fr.noA b m i m1
        · exact R.in_al m1 (fr.non b m)
      show ResR K H p1 H1 (pbF α ls A B) v r0
      cases r0 with
      | one r => obtain ⟨bs, q1, q2⟩ := rr; exact ⟨bs, q1, fr bs q2⟩
      | tup rs => obtain ⟨t, us, bs, q1, q2, q3, q4, q5⟩ := rr; exact ⟨t, us, bs, q1, q2, q3, q4, fr bs q5⟩
  · cases e3
theorem ResL.frz {q : List Addr} (l : ∀ b ∈ q, b ∈ p) : ∀ {vs : List V} {rs : List R1} {as : List Addr}, (∀ b ∈ as, b ∉ q) → ResL K p H vs rs as → DzA K q H vs (rs.map R1.da)
  | _, _, _, _, .nil => .nil
  | _, _, _, n, .d h t => .cons (h.tr (tr_less l)) (ResL.frz l n t)
  | _, _, _, n, .w (r := r) h t => by
    refine .cons ?_ (ResL.frz l (fun b m => n b (List.mem_append_right _ m)) t)
    cases r with
    | r x => exact h.2.frz l (n _ (List.mem_append_left _ (List.mem_cons_self ..)))
    | n x => exact h.frz l fun b m => n b (List.mem_append_left _ m)
theorem ResL.length : ∀ {vs : List V} {rs : List R1} {as : List Addr}, ResL K p H vs rs as → vs.length = rs.length
  | _, _, _, .nil => rfl
  | _, _, _, .d _ t => congrArg (· + 1) (ResL.length t)
  | _, _, _, .w _ t => congrArg (· + 1) (ResL.length t)
theorem drop_step {as : List Addr} (R : Rel K p H σ α A) (R1 : Rel K p' H' σ' α' A') (S1 : Step p H σ α A p' H' σ' α' A') (fr : Fresh p' H A' as) :
    Rel K (p'.filter fun b => decide (b ∉ as)) H' σ' α' A' ∧ Step p H σ α A (p'.filter fun b => decide (b ∉ as)) H' σ' α' A' := by
  refine ⟨rel_drop R1 fr.noA, S1.keep, S1.dom, S1.new, fun b m => S1.sub b (List.mem_filter.mp m).1, fun b m => ?_, S1.ln, S1.fix, S1.nof⟩
  rcases S1.mono b m with z | z
  · exact .inl (List.mem_filter.mpr ⟨z, decide_eq_true fun y => R.al b m (fr.non b y)⟩)
  · exact .inr z
theorem res_da {v : V} {r : Rv} (R : Rel K p H σ α A) (R1 : Rel K p' H' σ' α' A') (S1 : Step p H σ α A p' H' σ' α' A') (h : ResR K H p' H' A' v r) :
    ∃ p2, Rel K p2 H' σ' α' A' ∧ Step p H σ α A p2 H' σ' α' A' ∧ Dz K p2 H' v r.da := by
  have less : ∀ as : List Addr, ∀ b ∈ p'.filter (fun b => decide (b ∉ as)), b ∈ p' := fun as b m => (List.mem_filter.mp m).1
  have nin : ∀ as : List Addr, ∀ b ∈ as, b ∉ p'.filter (fun b => decide (b ∉ as)) := fun as b m z => of_decide_eq_true (List.mem_filter.mp z).2 m
  cases r with
  | one r =>
    obtain ⟨as, h1, fr⟩ := h
    obtain ⟨R2, S2⟩ := drop_step R R1 S1 fr
    have z := h1.frz (less as) (nin as)
    cases z with
    | cons z _ => exact ⟨_, R2, S2, z⟩
  | tup rs =>
    obtain ⟨t, us, as, rfl, ht, hl, h1, fr⟩ := h
    obtain ⟨R2, S2⟩ := drop_step R R1 S1 fr
    exact ⟨_, R2, S2, .tup ht hl (h1.frz (less as) (nin as))⟩
theorem call_data {F : FV} {vs : List V} {ls : List Lc} {Q : VK} {E : XK} {r : Rv} (R : Rel K p H σ α A) (hl : LocA K p H σ vs ls) (e : callM F α ls = some (r, α'))
    (h : ∀ p' H' A' v, Rel K p' H' σ α' A' → Step p H σ α A p' H' σ α' A' → Dz K p' H' v r.da → Q v H') : spV K F vs H Q E := by
  refine call_core R hl e fun p1 H1 A1 v R1 S1 rr => ?_
  obtain ⟨p2, R2, S2, d⟩ := res_da R R1 S1 rr
  exact h p2 H1 A1 v R2 S2 d
/-- a def's call: with what is left out (ds) behind -/
def eCall (F : FV) (ds : List Da) (ma : MA) : ME := fun α => (ma α).bind fun x => (callM F x.2 (x.1 ++ ds.map Lc.d)).bind fun y => some (.d y.1.da, y.2)
def fCall (F : FV) (ds : List Da) (ma : MA) : MF := fun α => (ma α).bind fun x => (callM F x.2 (x.1 ++ ds.map Lc.d)).bind fun y => match y.1 with
  | .one (.w r) => some (r, y.2)
  | _ => none
inductive DfA : List V → List Da → Prop
  | nil : DfA [] []
  | non {vs : List V} {ds : List Da} : DfA vs ds → DfA (.non :: vs) (.none :: ds)
  | bl {b : Bool} {vs : List V} {ds : List Da} : DfA vs ds → DfA (.bl b :: vs) (.bool b :: ds)
  | int {i : Int} {vs : List V} {ds : List Da} : DfA vs ds → DfA (.int i :: vs) (.int i :: ds)
theorem DfA.loc : ∀ {vs : List V} {ds : List Da}, DfA vs ds → LocA K p H σ vs (ds.map Lc.d)
  | _, _, .nil => .nil
  | _, _, .non r => .cons .non (DfA.loc r)
  | _, _, .bl r => .cons (.bl _) (DfA.loc r)
  | _, _, .int r => .cons (.int _) (DfA.loc r)
theorem paired_app {α β : Type} {R : α → β → Prop} : ∀ {xs ys : List α} {us ws : List β}, Paired R xs us → Paired R ys ws → Paired R (xs ++ ys) (us ++ ws)
  | _, _, _, _, .nil, s => s
  | _, _, _, _, .cons r t, s => .cons r (paired_app t s)
theorem ref_call {F : FV} {ta : TA} {ma : MA} {E : XK} {dvs : List V} {ds : List Da} (hd : DfA dvs ds) (ha : RefA K ta ma) : RefE K (tCall (spV K F) dvs E ta) (eCall F ds ma) := ⟨fun p H σ α A l α' Q R e h => by
  simp only [eCall, Option.bind_eq_some_iff] at e
  obtain ⟨⟨ls, α1⟩, e1, ⟨r, α2⟩, e2, e4⟩ := e
  cases e4
  refine ha.go p H σ α A ls α1 _ R e1 fun p1 H1 A1 vs R1 S1 q1 => ?_
  exact call_data R1 (paired_app q1 hd.loc) e2 fun p2 H2 A2 v R2 S2 dz => h p2 H2 A2 v R2 (S1.trans R S2) dz⟩
theorem ref_fCall {F : FV} {ta : TA} {ma : MA} {E : XK} {dvs : List V} {ds : List Da} (hd : DfA dvs ds) (ha : RefA K ta ma) : RefF K (tCall (spV K F) dvs E ta) (fCall F ds ma) := ⟨fun p H σ α A r α' Q R e h => by
  simp only [fCall, Option.bind_eq_some_iff] at e
  obtain ⟨⟨ls, α1⟩, e1, ⟨r', α2⟩, e2, e3⟩ := e
  split at e3
  · rename_i w hw
    cases e3
    dsimp only at hw
    subst hw
    refine ha.go p H σ α A ls α1 _ R e1 fun p1 H1 A1 vs R1 S1 q1 => ?_
    refine call_core R1 (paired_app q1 hd.loc) e2 fun p2 H2 A2 v R2 S2 rr => ?_
    obtain ⟨as, h1, fr⟩ := rr
    cases h1 with
    | w nw t =>
      cases t
      rw [List.append_nil] at fr
      exact h p2 H2 A2 _ _ R2 (S1.trans R S2) ⟨fr.inp, fun b m => S1.dom b (fr.non b m), fr.noA, fr.nd⟩ nw
  · cases e3⟩
end
end Vm
namespace Vm
open PySem PySem.Spec PyProof.Rows L2 Gk
def rOr (r s : R2) : R2 := fun x y H Q => r x y H Q ∨ s x y H Q
section
variable {X : Cx}
theorem opr_or {f : Value → Value → Sem Value} {r s : R2} (a : OpR X f r) (b : OpR X f s) : OpR X f (rOr r s) :=
  fun pins st σ H x y v u Q I rx ry q => q.elim (a pins st σ H x y v u Q I rx ry) (b pins st σ H x y v u Q I rx ry)
theorem opr_imp {g : Value → Value → Sem Value} {r r' : R2} (h : OpR X g r) (i : ∀ x y H Q, r' x y H Q → r x y H Q) : OpR X g r' :=
  fun pins s σ H x y v u Q I rx ry q => h pins s σ H x y v u Q I rx ry (i _ _ _ _ q)
theorem ixr_or {r s : R2} (a : IxR X r) (b : IxR X s) : IxR X (rOr r s) :=
  fun value slice pins st σ H x y v u Q I rx ry h hs => h.elim (fun h => a value slice pins st σ H x y v u Q I rx ry h hs) (fun h => b value slice pins st σ H x y v u Q I rx ry h hs)
def rCatU : R2 := fun x y H Q => ∃ a b xs ys, x = .ref a ∧ y = .ref b ∧ H a = some (.tup xs) ∧ H b = some (.tup ys) ∧ xs.length + ys.length ≤ sizeLine ∧
    ∀ u H', Same H H' → H' u = some (.tup (xs ++ ys)) → Q (.ref u) H'
theorem op_catU : OpR X (binaryOp .Add) rCatU :=
  opr_imp op_catA fun x y H Q h => by
    obtain ⟨a, b, xs, ys, e1, e2, ha, hb, hl, q⟩ := h
    refine ⟨a, b, xs, ys, e1, e2, .inl (.inl ha), .inl (.inl hb), hl, fun e => ?_, fun _ e => ?_, fun _ _ p hp => ?_⟩
    · exact q b H (Same.refl H) (by rw [e, List.nil_append]; exact hb)
    · exact q a H (Same.refl H) (by rw [e, List.append_nil]; exact ha)
    · exact q p _ (same_new hp) upd_same
def rSlU : V → Option Int → Option Int → Hp → VK → Prop := fun x lo hi H Q => (∃ a xs, x = .ref a ∧ H a = some (.tup xs) ∧ ∀ u H', Same H H' → H' u = some (.tup (cutV xs lo hi)) → Q (.ref u) H') ∨
  (∃ a xs, x = .ref a ∧ H a = some (.lst xs) ∧ ∀ p, H p = none → Q (.ref p) (L2.upd H p (.lst (cutV xs lo hi)))) ∨ rSlS x lo hi H Q
theorem sl_any : SlR X rSlU := by
  intro pins s σ H x v vl vu lo hi sl Q I rx hs pl pu q
  rcases q with ⟨a, xs, e, ha, q⟩ | ⟨a, xs, e, ha, q⟩ | q
  · refine sl_tupA pins s σ H x v vl vu lo hi sl Q I rx hs pl pu ?_
    refine ⟨a, xs, e, .inl (.inl ha), fun z => ?_, fun _ p hp => q p _ (same_new hp) upd_same⟩
    refine q a H (Same.refl H) ?_
    have ec : cutV xs lo hi = xs := by
      unfold cutV
      rw [z.1, z.2, List.drop_zero, Nat.sub_zero, List.take_length]
    rw [ec]
    exact ha
  · exact sl_list pins s σ H x v vl vu lo hi sl Q I rx hs pl pu ⟨a, xs, e, .inl (.inl ha), q⟩
  · exact sl_str pins s σ H x v vl vu lo hi sl Q I rx hs pl pu q
/-- + -/
def rAddI : R2 := rI0 fun i j => .int (i + j)
def rAddS : R2 := fun x y H Q => ∃ i j, x = .str i ∧ y = .str j ∧ i.length + j.length ≤ sizeLine ∧ Q (.str (i ++ j)) H
def rAddA : R2 := rOr rAddI (rOr rAddS (rOr rCatU rCat))
theorem op_addA : OpR X (binaryOp .Add) rAddA := opr_or op_add (opr_or op_add_str (opr_or op_catU op_cat))
/-- x[i] -/
def rIxTH : R2 := fun x y H Q => ∃ p xs i v, x = .ref p ∧ y = .int i ∧ H p = some (.tup xs) ∧ atI xs i = some v ∧ Q v H
def rIxLH : R2 := fun x y H Q => ∃ p xs i v, x = .ref p ∧ y = .int i ∧ H p = some (.lst xs) ∧ atI xs i = some v ∧ Q v H
def rIxA : R2 := rOr rIxLH (rOr rIxTH rIxS)
theorem ix_any : IxR X rIxA := ixr_or ix_lstH (ixr_or ix_tupH ix_str)
/-- len -/
def rLenA : List V → Hp → VK → Prop := fun xs H Q => (∃ p ys, xs = [.ref p] ∧ HasSeq H p ys ∧ Q (.int ys.length) H) ∨ (∃ z : Str, xs = [.str z] ∧ z.length ≤ sizeLine ∧ Q (.int (z.length : Nat)) H)
theorem len_any : CallR X (.builtin "len") rLenA := by
  intro pins s σ H xs us Q I r h
  rcases h with h | ⟨z, e, hz, q⟩
  · exact len_H pins s σ H xs us Q I r h
  · exact call_len pins s σ H xs us Q I r ⟨.str z, z.length, e, ⟨hz, rfl⟩, q⟩
/-- tuple(..) of a list, of a tuple -/
def rTupA : List V → Hp → VK → Prop := fun xs H Q => ∃ p ys, xs = [.ref p] ∧ HasSeq H p ys ∧ ∀ u H', Same H H' → H' u = some (.tup ys) → Q (.ref u) H'
theorem tuple_any : CallR X (.type "tuple") rTupA := by
  intro pins s σ H xs us Q I r h
  obtain ⟨p, ys, e, hp, q⟩ := h
  refine call_tuple_of pins s σ H xs us Q I r ⟨p, ys, e, ?_⟩
  rcases hp with hp | hp
  · exact .inl ⟨.of hp, fun l hl => q l _ (same_new hl) upd_same⟩
  · exact .inr ⟨.of hp, q p H (Same.refl H) hp⟩
/-- list(..) -/
def rLstA : List V → Hp → VK → Prop := fun xs H Q => (∃ p ys, xs = [.ref p] ∧ HasSeq H p ys ∧ ∀ l, H l = none → Q (.ref l) (L2.upd H l (.lst ys))) ∨
  ∃ z : Str, xs = [.str z] ∧ z.length ≤ 100000 ∧ ∀ l, H l = none → Q (.ref l) (L2.upd H l (.lst (signsV z)))
theorem list_any (calm : X.calm = true) : CallR X (.type "list") rLstA := by
  intro pins s σ H xs us Q I r h
  rcases h with h | h
  · exact list_ofH pins s σ H xs us Q I r h
  · exact call_listS calm pins s σ H xs us Q I r h
end
section
variable {K : PySem.W.Frag} {p p' p2 : List Addr} {H H' H2 : Hp} {σ σ' σ2 : L2.St} {α α' α2 α0 : AS} {A A' A2 : FT}
theorem sline (n : Nat) (h : n ≤ SLIM) : n ≤ sizeLine := Nat.le_trans h (by rw [sizeLine_eq]; decide)
theorem dz_tup_new {xs : List V} {ds : List Da} {u : Addr} (s : Same H H') (hu : H' u = some (.tup xs)) (hl : xs.length ≤ LIM) (d : DzA K p H xs ds) : Dz K p H' (.ref u) (.tuple ds) := .tup hu hl (d.tr (tr_same s))
def fAdd : Da → Da → Option Da
  | .int i, .int j => some (.int (i + j))
  | .str x, .str y => if (x ++ y).length ≤ SLIM ∧ x.length + y.length ≤ SLIM then some (.str (x ++ y)) else none
  | .tuple xs, .tuple ys => if xs.length + ys.length ≤ LIM then some (.tuple (xs ++ ys)) else none
  | .list xs, .list ys => if xs.length + ys.length ≤ LIM then some (.list (xs ++ ys)) else none
  | _, _ => none
/-- data hold nothing at a free place -/
theorem rr_add : RefR2 K rAddA fAdd := by
  intro p H x y a b c Q al ha hb e q
  unfold fAdd at e
  split at e
  · cases e; cases vz_int ha; cases vz_int hb
    exact .inl ⟨_, _, rfl, rfl, q _ H (Same.refl H) (.int _)⟩
  · split at e
    · rename_i hl
      cases e
      obtain ⟨rfl, h1⟩ := vz_str ha
      obtain ⟨rfl, h2⟩ := vz_str hb
      exact .inr (.inl ⟨_, _, rfl, rfl, sline _ hl.2, q _ H (Same.refl H) (.str _ hl.1)⟩)
    · cases e
  · split at e
    · rename_i hl
      cases e
      obtain ⟨a, vs, rfl, h1, h2, h3⟩ := vz_tup ha
      obtain ⟨b, ws, rfl, g1, g2, g3⟩ := vz_tup hb
      have hv : vs.length + ws.length ≤ LIM := by rw [h3.length, g3.length]; exact hl
      exact .inr (.inr (.inl ⟨a, b, vs, ws, rfl, rfl, h1, g1, line_of hv, fun u H' s hu => q _ H' s (dz_tup_new s hu (by rw [List.length_append]; exact hv) (h3.append g3))⟩))
    · cases e
  · split at e
    · rename_i hl
      cases e
      obtain ⟨a, vs, rfl, h1, h2, h3⟩ := vz_lst ha
      obtain ⟨b, ws, rfl, g1, g2, g3⟩ := vz_lst hb
      have hv : vs.length + ws.length ≤ LIM := by rw [h3.length, g3.length]; exact hl
      refine .inr (.inr (.inr ⟨a, b, vs, ws, rfl, rfl, h1, g1, line_of hv, fun l hl => q _ _ (same_new hl) (.lst (fun m => al l m hl) upd_same (by rw [List.length_append]; exact hv) ((h3.append g3).tr (tr_same (same_new hl))))⟩))
    · cases e
  · cases e
def fI (g : Int → Int → Int) : Da → Da → Option Da
  | .int i, .int j => some (.int (g i j))
  | _, _ => none
def fIB (g : Int → Int → Bool) : Da → Da → Option Da
  | .int i, .int j => some (.bool (g i j))
  | _, _ => none
theorem rr_I {g : Int → Int → Int} : RefR2 K (rI0 fun i j => .int (g i j)) (fI g) := by
  intro p H x y a b c Q al ha hb e q
  unfold fI at e
  split at e
  · cases e; cases vz_int ha; cases vz_int hb
    exact ⟨_, _, rfl, rfl, q _ H (Same.refl H) (.int _)⟩
  · cases e
theorem rr_IB {g : Int → Int → Bool} : RefR2 K (rI0 fun i j => .bl (g i j)) (fIB g) := by
  intro p H x y a b c Q al ha hb e q
  unfold fIB at e
  split at e
  · cases e; cases vz_int ha; cases vz_int hb
    exact ⟨_, _, rfl, rfl, q _ H (Same.refl H) (.bl _)⟩
  · cases e
abbrev fSub := fI fun i j => i - j
abbrev fLt := fIB fun i j => decide (i < j)
abbrev fLe := fIB fun i j => decide (i ≤ j)
abbrev fGt := fIB fun i j => decide (j < i)
abbrev fGe := fIB fun i j => decide (j ≤ i)
def fMul : Da → Da → Option Da
  | .int i, .int j => if (-(2 ^ 64) < i ∧ i < 2 ^ 64) ∨ (-(2 ^ 64) < j ∧ j < 2 ^ 64) then some (.int (i * j)) else none
  | _, _ => none
def fMod : Da → Da → Option Da
  | .int i, .int j => if 0 < j then some (.int (i % j)) else none
  | _, _ => none
def fDiv : Da → Da → Option Da
  | .int i, .int j => if 0 < j ∧ j < 1073741824 then some (.int (i / j)) else none
  | _, _ => none
def fPow : Da → Da → Option Da
  | .int i, .int j => if 0 ≤ j ∧ j ≤ 1000000 ∧ i.natAbs < 2 ^ 64 then some (.int (i ^ j.toNat)) else none
  | _, _ => none
theorem rr_mul : RefR2 K (rI CMul fun i j => .int (i * j)) fMul := by
  intro p H x y a b c Q al ha hb e q
  unfold fMul at e
  split at e
  · split at e
    · rename_i hc
      cases e; cases vz_int ha; cases vz_int hb
      exact ⟨_, _, rfl, rfl, hc, q _ H (Same.refl H) (.int _)⟩
    · cases e
  · cases e
theorem rr_mod : RefR2 K (rI (fun _ j => 0 < j) fun i j => .int (i % j)) fMod := by
  intro p H x y a b c Q al ha hb e q
  unfold fMod at e
  split at e
  · split at e
    · rename_i hc
      cases e; cases vz_int ha; cases vz_int hb
      exact ⟨_, _, rfl, rfl, hc, q _ H (Same.refl H) (.int _)⟩
    · cases e
  · cases e
theorem rr_div : RefR2 K (rI CDiv fun i j => .int (i / j)) fDiv := by
  intro p H x y a b c Q al ha hb e q
  unfold fDiv at e
  split at e
  · split at e
    · rename_i hc
      cases e; cases vz_int ha; cases vz_int hb
      exact ⟨_, _, rfl, rfl, hc, q _ H (Same.refl H) (.int _)⟩
    · cases e
  · cases e
theorem rr_pow : RefR2 K (rI CPow fun i j => .int (i ^ j.toNat)) fPow := by
  intro p H x y a b c Q al ha hb e q
  unfold fPow at e
  split at e
  · split at e
    · rename_i hc
      cases e; cases vz_int ha; cases vz_int hb
      exact ⟨_, _, rfl, rfl, hc, q _ H (Same.refl H) (.int _)⟩
    · cases e
  · cases e
def fNeg : Da → Option Da
  | .int i => some (.int (-i))
  | _ => none
theorem rr_neg : RefR1 K (rU fun i => .int (-i)) fNeg := by
  intro p H x a c Q al ha e q
  unfold fNeg at e
  split at e
  · cases e; cases vz_int ha
    exact ⟨_, rfl, q _ H (Same.refl H) (.int _)⟩
  · cases e
theorem atI_dz {vs : List V} {ds : List Da} {i : Int} {d : Da} (h : DzA K p H vs ds) (e : atI ds i = some d) : ∃ v, atI vs i = some v ∧ Dz K p H v d := by
  unfold atI at e ⊢
  rw [h.length]
  obtain ⟨j, e1, e2⟩ := Option.bind_eq_some_iff.mp e
  obtain ⟨v, v1, v2⟩ := h.get e2
  exact ⟨v, by rw [e1]; exact v1, v2⟩
def fIx : Da → Da → Option Da
  | .list xs, .int i => atI xs i
  | .tuple xs, .int i => atI xs i
  | .str z, .int i => (atI z.cps.toList i).map fun c => .str ⟨#[c]⟩
  | _, _ => none
theorem rr_ix : RefR2 K rIxA fIx := by
  intro p H x y a b c Q al ha hb e q
  unfold fIx at e
  split at e
  · cases vz_int hb
    obtain ⟨a, vs, rfl, h1, h2, h3⟩ := vz_lst ha
    obtain ⟨v, v1, v2⟩ := atI_dz h3 e
    exact .inl ⟨a, vs, _, v, rfl, rfl, h1, v1, q v H (Same.refl H) v2⟩
  · cases vz_int hb
    obtain ⟨a, vs, rfl, h1, h2, h3⟩ := vz_tup ha
    obtain ⟨v, v1, v2⟩ := atI_dz h3 e
    exact .inr (.inl ⟨a, vs, _, v, rfl, rfl, h1, v1, q v H (Same.refl H) v2⟩)
  · cases vz_int hb
    obtain ⟨rfl, hz⟩ := vz_str ha
    obtain ⟨k, e1, rfl⟩ := Option.map_eq_some_iff.mp e
    exact .inr (.inr ⟨_, _, k, rfl, rfl, sline _ hz, e1, q _ H (Same.refl H) (.str _ (by show 1 ≤ SLIM; decide))⟩)
  · cases e
abbrev MO := AS → Option (Option Int × AS)
structure RefO (K : PySem.W.Frag) (t : TO) (m : MO) : Prop where
  go : ∀ p H σ α A l α' Q, Rel K p H σ α A → m α = some (l, α') → (∀ p' H' A', Rel K p' H' σ α' A' → Step p H σ α A p' H' σ α' A' → Q l H') → t σ H Q
def oNone : MO := fun α => some (none, α)
def oSome (m : ME) : MO := fun α => (m α).bind fun x => (res x.2 x.1).bind fun a => match a with
  | .int i => some (some i, x.2)
  | _ => none
theorem ref_oNone : RefO K tNoPart oNone := ⟨fun p H σ α A l α' Q R e h => by cases e; exact h p H A R .refl⟩
theorem ref_oSome {t : TE} {m : ME} (he : RefE K t m) : RefO K (tPart t) (oSome m) := ⟨fun p H σ α A l α' Q R e h => by
  simp only [oSome, Option.bind_eq_some_iff] at e
  obtain ⟨⟨x, α1⟩, e1, a, e2, e3⟩ := e
  split at e3
  · cases e3
    refine he.go p H σ α A x α1 _ R e1 fun p1 H1 A1 v R1 S1 q => ?_
    cases vz_int (res_vz R1 q e2)
    exact ⟨_, rfl, h p1 H1 A1 R1 S1⟩
  · cases e3⟩
def cutD (xs : List Da) (lo hi : Option Int) : List Da := (xs.drop (HT.sIx xs.length 0 lo)).take (HT.sIx xs.length xs.length hi - HT.sIx xs.length 0 lo)
theorem cut_dz {vs : List V} {ds : List Da} {lo hi : Option Int} (h : DzA K p H vs ds) : DzA K p H (cutV vs lo hi) (cutD ds lo hi) := by
  unfold cutV cutD
  rw [h.length]
  exact (h.drop _).take _
theorem cutV_len {vs : List V} {lo hi : Option Int} : (cutV vs lo hi).length ≤ vs.length := by
  unfold cutV
  rw [List.length_take, List.length_drop]
  omega
def fSl (lo hi : Option Int) : Da → Option Da
  | .list xs => some (.list (cutD xs lo hi))
  | .tuple xs => some (.tuple (cutD xs lo hi))
  | .str z => if (cutS z lo hi).length ≤ SLIM then some (.str (cutS z lo hi)) else none
  | _ => none
def eSl (me : ME) (ml mh : MO) : ME := fun α => (me α).bind fun x => (ml x.2).bind fun l => (mh l.2).bind fun u => (res u.2 x.1).bind fun a => (fSl l.1 u.1 a).bind fun c => some (.d c, u.2)
theorem ref_sl {te : TE} {tl th : TO} {me : ME} {ml mh : MO} (he : RefE K te me) (hl : RefO K tl ml) (hh : RefO K th mh) : RefE K (tSl rSlU te tl th) (eSl me ml mh) := ⟨fun p H σ α A l α' Q R e h => by
  simp only [eSl, Option.bind_eq_some_iff] at e
  obtain ⟨⟨x, α1⟩, e1, ⟨lo, α2⟩, e2, ⟨hi, α3⟩, e3, a, e4, c, e5, e6⟩ := e
  cases e6
  refine he.go p H σ α A x α1 _ R e1 fun p1 H1 A1 v R1 S1 q1 => ?_
  refine hl.go p1 H1 σ α1 A1 lo α2 _ R1 e2 fun p2 H2 A2 R2 S2 => ?_
  refine hh.go p2 H2 σ α2 A2 hi α3 _ R2 e3 fun p3 H3 A3 R3 S3 => ?_
  have z := res_vz R3 ((q1.step R1 S2).step R2 S3) e4
  have S := (S1.trans R S2).trans R S3
  unfold fSl at e5
  split at e5
  · cases e5
    obtain ⟨a, vs, rfl, h1, h2, h3⟩ := vz_lst z
    refine .inr (.inl ⟨a, vs, rfl, h1, fun l hl => ?_⟩)
    have s := same_new (o := .lst (cutV vs lo hi)) hl
    exact h p3 _ A3 _ (R3.same s) (S.trans R (.same s)) (.lst (not_in_of_none R3 hl) upd_same (Nat.le_trans cutV_len h2) ((cut_dz h3).tr (tr_same s)))
  · cases e5
    obtain ⟨a, vs, rfl, h1, h2, h3⟩ := vz_tup z
    exact .inl ⟨a, vs, rfl, h1, fun u H' s hu => h p3 H' A3 _ (R3.same s) (S.trans R (.same s)) (dz_tup_new s hu (Nat.le_trans cutV_len h2) (cut_dz h3))⟩
  · split at e5
    · rename_i hz
      cases e5
      obtain ⟨rfl, hs⟩ := vz_str z
      exact .inr (.inr ⟨_, rfl, sline _ hs, h p3 H3 A3 _ R3 S (.str _ hz)⟩)
    · cases e5
  · cases e5⟩
def fLen : List Da → Option Da
  | [.list xs] => some (.int (xs.length : Nat))
  | [.tuple xs] => some (.int (xs.length : Nat))
  | [.str z] => some (.int (z.length : Nat))
  | _ => none
theorem rr_len : RefRA K rLenA fLen := by
  intro p H xs as c Q al ha e q
  unfold fLen at e
  split at e
  · cases e
    cases ha with
    | cons h r =>
      cases r
      obtain ⟨a, vs, rfl, h1, h2, h3⟩ := vz_lst h
      refine .inl ⟨a, vs, rfl, .inl h1, ?_⟩
      rw [h3.length]
      exact q _ H (Same.refl H) (.int _)
  · cases e
    cases ha with
    | cons h r =>
      cases r
      obtain ⟨a, vs, rfl, h1, h2, h3⟩ := vz_tup h
      refine .inl ⟨a, vs, rfl, .inr h1, ?_⟩
      rw [h3.length]
      exact q _ H (Same.refl H) (.int _)
  · cases e
    cases ha with
    | cons h r =>
      cases r
      obtain ⟨rfl, hz⟩ := vz_str h
      exact .inr ⟨_, rfl, sline _ hz, q _ H (Same.refl H) (.int _)⟩
  · cases e
def fTuple : List Da → Option Da
  | [.list xs] => some (.tuple xs)
  | [.tuple xs] => some (.tuple xs)
  | _ => none
theorem rr_tuple : RefRA K rTupA fTuple := by
  intro p H xs as c Q al ha e q
  unfold fTuple at e
  split at e
  · cases e
    cases ha with
    | cons h r =>
      cases r
      obtain ⟨a, vs, rfl, h1, h2, h3⟩ := vz_lst h
      exact ⟨a, vs, rfl, .inl h1, fun u H' s hu => q _ H' s (dz_tup_new s hu h2 h3)⟩
  · cases e
    cases ha with
    | cons h r =>
      cases r
      obtain ⟨a, vs, rfl, h1, h2, h3⟩ := vz_tup h
      exact ⟨a, vs, rfl, .inr h1, fun u H' s hu => q _ H' s (dz_tup_new s hu h2 h3)⟩
  · cases e
def signsD (z : Str) : List Da := z.cps.toList.map fun c => .str ⟨#[c]⟩
theorem signs_dz (z : Str) : DzA K p H (signsV z) (signsD z) := by
  unfold signsV signsD
  induction z.cps.toList with
  | nil => exact .nil
  | cons c r ih => exact .cons (.str _ (by show 1 ≤ SLIM; decide)) ih
def fList : List Da → Option (List Da)
  | [.list xs] => some xs
  | [.tuple xs] => some xs
  | [.str z] => if z.length ≤ 100000 then some (signsD z) else none
  | _ => none
def fListM (ma : MA) : MF := fun α => (ma α).bind fun x => (resA x.2 x.1).bind fun a => (fList a).bind fun c => some (.r (.list c), x.2)
theorem ref_fList {ta : TA} {ma : MA} (ha : RefA K ta ma) : RefF K (tCB rLstA ta) (fListM ma) := ⟨fun p H σ α A r α' Q R e h => by
  simp only [fListM, Option.bind_eq_some_iff] at e
  obtain ⟨⟨ls, α1⟩, e1, a, e2, c, e3, e4⟩ := e
  cases e4
  refine ha.go p H σ α A ls α1 _ R e1 fun p1 H1 A1 vs R1 S1 q1 => ?_
  have z := resA_vz R1 q1 e2
  have fin : ∀ (ys : List V) (l : Addr), ys.length ≤ LIM → DzA K p1 H1 ys c → H1 l = none → Q (.ref l) (L2.upd H1 l (.lst ys)) := fun ys l hy dy hl => by
    obtain ⟨R2, S2, nr⟩ := rel_new (o := .lst ys) R1 hl
    exact h _ _ A1 l [] R2 (S1.trans R S2) (fresh_one (List.mem_cons_self ..) (S1.dom l hl) nr) ⟨rfl, ys, upd_same, hy, dy.tr (tr_new hl (same_new hl))⟩
  unfold fList at e3
  split at e3
  · cases e3
    cases z with
    | cons h r =>
      cases r
      obtain ⟨a, vs, rfl, h1, h2, h3⟩ := vz_lst h
      exact .inl ⟨a, vs, rfl, .inl h1, fun l hl => fin vs l h2 h3 hl⟩
  · cases e3
    cases z with
    | cons h r =>
      cases r
      obtain ⟨a, vs, rfl, h1, h2, h3⟩ := vz_tup h
      exact .inl ⟨a, vs, rfl, .inr h1, fun l hl => fin vs l h2 h3 hl⟩
  · split at e3
    · rename_i hz
      cases e3
      cases z with
      | cons h r =>
        cases r
        obtain ⟨rfl, _⟩ := vz_str h
        refine .inr ⟨_, rfl, hz, fun l hl => fin _ l ?_ (signs_dz _) hl⟩
        unfold signsV
        rw [List.length_map]
        exact Nat.le_trans hz (by decide)
    · cases e3
  · cases e3⟩
end
end Vm
namespace Vm
open PySem PySem.Spec PyProof.Rows L2 Gk
def tOrE (t u : TE) : TE := fun σ H Q => t σ H Q ∨ u σ H Q
def tOrS (t u : TS) : TS := fun D σ H => t D σ H ∨ u D σ H
theorem pe_orE {X : Cx} {e : Expr} {t u : TE} (a : PE X e t) (b : PE X e u) : PE X e (tOrE t u) := ⟨fun pins s σ H Q I h => h.elim (a.run pins s σ H Q I) (b.run pins s σ H Q I)⟩
theorem ps_orS {X : Cx} {e : Stmt} {t u : TS} (a : PS X e t) (b : PS X e u) : PS X e (tOrS t u) := ⟨fun pins s σ H D I h => h.elim (a.run pins s σ H D I) (b.run pins s σ H D I)⟩
mutual
def toPy : Da → Option PyData
  | .none => some .none
  | .bool b => some (.bool b)
  | .int i => some (.int i)
  | .str s => some (.str s)
  | .list xs => (toPys xs).map .list
  | .tuple xs => (toPys xs).map .tuple
  | .dk _ => none
  | .dt _ => none
def toPys : List Da → Option (List PyData)
  | [] => some []
  | x :: xs => (toPy x).bind fun d => (toPys xs).bind fun ds => some (d :: ds)
end
section
variable {K : PySem.W.Frag} {p p' p2 : List Addr} {H H' H2 : Hp} {σ σ' σ2 : L2.St} {α α' α2 α0 : AS} {A A' A2 : FT}
mutual
theorem dz_dp : ∀ {v : V} {x : Da} {d : PyData}, Dz K p H v x → toPy x = some d → Dp K H v d
  | _, _, _, .non, e => by cases e; exact .non
  | _, _, _, .bl b, e => by cases e; exact .bl b
  | _, _, _, .int i, e => by cases e; exact .int i
  | _, _, _, .str x h, e => by cases e; exact .str x
  | _, _, _, .lst n r l h, e => by
    simp only [toPy, Option.map_eq_some_iff] at e
    obtain ⟨ds, e1, rfl⟩ := e
    exact .lst (.of r) (dzA_dp h e1)
  | _, _, _, .tup r l h, e => by
    simp only [toPy, Option.map_eq_some_iff] at e
    obtain ⟨ds, e1, rfl⟩ := e
    exact .tup (.of r) (dzA_dp h e1)
  | _, _, _, .dk _ _ _ _, e => by cases e
  | _, _, _, .dt _ _ _ _, e => by cases e
theorem dzA_dp : ∀ {vs : List V} {xs : List Da} {ds : List PyData}, DzA K p H vs xs → toPys xs = some ds → DpAll K H vs ds
  | _, _, _, .nil, e => by cases e; exact .nil
  | _, _, _, .cons h t, e => by
    simp only [toPys, Option.bind_eq_some_iff] at e
    obtain ⟨d, e1, ds, e2, e3⟩ := e
    cases e3
    exact .cons (dz_dp h e1) (dzA_dp t e2)
end
theorem vz_dp {v : V} {x : Da} {d : PyData} (h : Vz K p H v x) (e : toPy x = some d) : Dp K H v d := by
  cases h with
  | of h => exact dz_dp h e
  | top h =>
    cases x with
    | list xs =>
      obtain ⟨vs, h1, h2, h3⟩ := h
      simp only [toPy, Option.map_eq_some_iff] at e
      obtain ⟨ds, e1, rfl⟩ := e
      exact .lst (.of h1) (dzA_dp h3 e1)
    | dk xs => cases e
    | dt xs => cases e
    | _ => exact h.elim
theorem op_eqK {X : Cx} (hK : X.K = K) (hu : X.A.units + 64 < cLine) : OpR X (compareOp .Eq) (rOr rEq (rEqD K)) := by subst hK; exact opr_or op_eq (op_eqD hu)
theorem op_neK {X : Cx} (hK : X.K = K) (hu : X.A.units + 64 < cLine) : OpR X (compareOp .NotEq) (rOr rNe (rNeD K)) := by subst hK; exact opr_or op_ne (op_neD hu)
/-- two texts are compared whatever stands in them -/
def strs2 : Da → Da → Option Bool
  | .str x, .str y => some (x == y)
  | _, _ => none
def fEqP (a b : Da) : Option Bool := (strs2 a b).or ((toPy a).bind fun d => (toPy b).bind fun e => if SeqAt.shaped d = true ∧ SeqAt.shaped e = true then some (PyData.eqv d e) else none)
theorem strs2_some {a b : Da} {k : Bool} (e : strs2 a b = some k) : ∃ x y, a = .str x ∧ b = .str y ∧ k = (x == y) := by
  unfold strs2 at e
  split at e
  · cases e; exact ⟨_, _, rfl, rfl, rfl⟩
  · cases e
theorem eqP_some {a b : Da} {k : Bool} (e : fEqP a b = some k) : (∃ x y, a = .str x ∧ b = .str y ∧ k = (x == y)) ∨ ∃ d e, toPy a = some d ∧ toPy b = some e ∧ SeqAt.shaped d = true ∧ SeqAt.shaped e = true ∧ k = PyData.eqv d e := by
  unfold fEqP at e
  cases h : strs2 a b with
  | some j =>
    rw [h] at e
    cases e
    exact .inl (strs2_some h)
  | none =>
    rw [h, Option.none_or] at e
    simp only [Option.bind_eq_some_iff] at e
    obtain ⟨d, e1, f, e2, e3⟩ := e
    split at e3
    · rename_i h; cases e3; exact .inr ⟨d, f, e1, e2, h.1, h.2, rfl⟩
    · cases e3
/-- an empty dict that stands now as it was made: its own -/
theorem rr_eqP : ∀ p H x y a b k Q, Vz K p H x a → Vz K p H y b → fEqP a b = some k → Q (.bl k) H → rOr rEq (rEqD K) x y H Q := fun p H x y a b k Q va vb e q => by
  rcases eqP_some e with ⟨x, y, rfl, rfl, rfl⟩ | ⟨d, f, e1, e2, e3, e4, rfl⟩
  · obtain ⟨rfl, _⟩ := vz_str va
    obtain ⟨rfl, _⟩ := vz_str vb
    exact .inl ⟨rfl, by rw [dec_str]; exact q⟩
  · exact .inr ⟨d, f, vz_dp va e1, vz_dp vb e2, e3, e4, q⟩
theorem rr_neP : ∀ p H x y a b k Q, Vz K p H x a → Vz K p H y b → fEqP a b = some k → Q (.bl (!k)) H → rOr rNe (rNeD K) x y H Q := fun p H x y a b k Q va vb e q => by
  rcases eqP_some e with ⟨x, y, rfl, rfl, rfl⟩ | ⟨d, f, e1, e2, e3, e4, rfl⟩
  · obtain ⟨rfl, _⟩ := vz_str va
    obtain ⟨rfl, _⟩ := vz_str vb
    exact .inl ⟨rfl, by rw [dec_str]; exact q⟩
  · exact .inr ⟨d, f, vz_dp va e1, vz_dp vb e2, e3, e4, q⟩
def fEqS (a b : Da) : Option Da := (fEqP a b).map .bool
def fNeS (a b : Da) : Option Da := (fEqP a b).map fun k => .bool (!k)
theorem rr_eq : RefR2 K (rOr rEq (rEqD K)) fEqS := fun p H x y a b c Q al va vb e q => by
  obtain ⟨k, e1, rfl⟩ := Option.map_eq_some_iff.mp e
  exact rr_eqP p H x y a b k Q va vb e1 (q _ H (Same.refl H) (.bl k))
theorem rr_ne : RefR2 K (rOr rNe (rNeD K)) fNeS := fun p H x y a b c Q al va vb e q => by
  obtain ⟨k, e1, rfl⟩ := Option.map_eq_some_iff.mp e
  exact rr_neP p H x y a b k Q va vb e1 (q _ H (Same.refl H) (.bl _))
def valA {κ τ : Type} [DecidableEq κ] (kvs : List (κ × τ)) (k : κ) : Option τ := (kvs.find? fun kv => decide (kv.1 = k)).map (·.2)
def lookD : Da → Da → Option (Option Da)
  | .dk kvs, x => (keyD x).bind fun k => some (valA kvs k)
  | .dt kvs, x => (keyT x).bind fun k => some (valA kvs k)
  | _, _ => none
theorem DzK.val (k : Key) : ∀ {xs : List (Key × V)} {ds : List (Key × Da)}, DzK K p H xs ds → (valA ds k = none ∧ valV xs k = none) ∨ ∃ v d, valA ds k = some d ∧ valV xs k = some v ∧ Dz K p H v d
  | _, _, .nil => .inl ⟨rfl, rfl⟩
  | _, _, .cons (k := j) h d t => by
    by_cases e : j = k
    · exact .inr ⟨_, _, by simp [valA, e], by rw [valV_pos (by exact e)], d⟩
    · rcases DzK.val k t with ⟨h1, h2⟩ | ⟨v, d', h1, h2, h3⟩
      · exact .inl ⟨by simpa [valA, List.find?_cons, e] using h1, by rw [valV_neg (by exact e)]; exact h2⟩
      · exact .inr ⟨v, d', by simpa [valA, List.find?_cons, e] using h1, by rw [valV_neg (by exact e)]; exact h2, h3⟩
theorem DzT.val (k : List Key) : ∀ {xs : List (List Key × V)} {ds : List (List Key × Da)}, DzT K p H xs ds → (valA ds k = none ∧ valV xs k = none) ∨ ∃ v d, valA ds k = some d ∧ valV xs k = some v ∧ Dz K p H v d
  | _, _, .nil => .inl ⟨rfl, rfl⟩
  | _, _, .cons (k := j) h d t => by
    by_cases e : j = k
    · exact .inr ⟨_, _, by simp [valA, e], by rw [valV_pos (by exact e)], d⟩
    · rcases DzT.val k t with ⟨h1, h2⟩ | ⟨v, d', h1, h2, h3⟩
      · exact .inl ⟨by simpa [valA, List.find?_cons, e] using h1, by rw [valV_neg (by exact e)]; exact h2⟩
      · exact .inr ⟨v, d', by simpa [valA, List.find?_cons, e] using h1, by rw [valV_neg (by exact e)]; exact h2, h3⟩
theorem vz_key {v : V} {x : Da} {k : Key} (h : Vz K p H v x) (e : keyD x = some k) : v = kV k ∧ KeyOk k := by
  cases x with
  | int i => cases e; exact ⟨vz_int h, trivial⟩
  | str s => cases e; exact ⟨(vz_str h).1, (vz_str h).2⟩
  | _ => cases e
theorem dzA_keys : ∀ {vs : List V} {xs : List Da} {ks : List Key}, DzA K p H vs xs → keysD xs = some ks → vs = ks.map kV ∧ (∀ k ∈ ks, KeyOk k) ∧ ks.length = xs.length
  | _, _, _, .nil, e => by cases e; exact ⟨rfl, fun k m => (List.not_mem_nil m).elim, rfl⟩
  | _, _, _, .cons h t, e => by
    simp only [keysD, Option.bind_eq_some_iff] at e
    obtain ⟨k, e1, ks, e2, e3⟩ := e
    cases e3
    obtain ⟨h1, h2⟩ := vz_key (.of h) e1
    obtain ⟨h3, h4, h5⟩ := dzA_keys t e2
    refine ⟨by rw [h1, h3]; rfl, fun j m => ?_, congrArg (· + 1) h5⟩
    rcases List.mem_cons.mp m with rfl | m
    · exact h2
    · exact h4 j m
theorem vz_keyT {v : V} {x : Da} {k : List Key} (h : Vz K p H v x) (e : keyT x = some k) : ∃ b, v = .ref b ∧ H b = some (.tup (k.map kV)) ∧ (∀ j ∈ k, KeyOk j) ∧ k.length ≤ LIM := by
  cases x with
  | tuple xs =>
    obtain ⟨a, vs, rfl, h1, h2, h3⟩ := vz_tup h
    obtain ⟨h4, h5, h6⟩ := dzA_keys h3 e
    subst h4
    exact ⟨a, rfl, h1, h5, by rw [h6, ← h3.length]; exact h2⟩
  | _ => cases e
theorem look_get {vd vk : V} {x k : Da} {r : Option Da} (hd : Vz K p H vd x) (hk : Vz K p H vk k) (e : lookD x k = some r) :
    ∃ a o, vd = .ref a ∧ DGet H a vk o ∧ IsD H a ∧ ((r = none ∧ o = none) ∨ ∃ v d, r = some d ∧ o = some v ∧ Dz K p H v d) := by
  cases x with
  | dk kvs =>
    simp only [lookD, Option.bind_eq_some_iff] at e
    obtain ⟨j, e1, e2⟩ := e
    cases e2
    obtain ⟨rfl, _⟩ := vz_key hk e1
    obtain ⟨a, xs, rfl, h1, h2, h3⟩ := vz_dk hd
    refine ⟨a, valV xs j, rfl, .inl ⟨xs, j, h1, rfl, rfl⟩, .inl ⟨_, h1⟩, ?_⟩
    rcases h3.val j with ⟨q1, q2⟩ | ⟨v, d, q1, q2, q3⟩
    · exact .inl ⟨q1, q2⟩
    · exact .inr ⟨v, d, q1, q2, q3⟩
  | dt kvs =>
    simp only [lookD, Option.bind_eq_some_iff] at e
    obtain ⟨j, e1, e2⟩ := e
    cases e2
    obtain ⟨b, rfl, hb, _, _⟩ := vz_keyT hk e1
    obtain ⟨a, xs, rfl, h1, h2, h3⟩ := vz_dt hd
    refine ⟨a, valV xs j, rfl, .inr ⟨xs, j, b, h1, rfl, hb, rfl⟩, .inr ⟨_, h1⟩, ?_⟩
    rcases h3.val j with ⟨q1, q2⟩ | ⟨v, d, q1, q2, q3⟩
    · exact .inl ⟨q1, q2⟩
    · exact .inr ⟨v, d, q1, q2, q3⟩
  | _ => cases e
def Da.isDict : Da → Bool
  | .dk _ => true
  | .dt _ => true
  | _ => false
/-- x[i], d[k] -/
def fSubs (a b : Da) : Option Da := if a.isDict = true then (lookD a b).bind id else fIx a b
theorem ref_sub {ta tb : TE} {ma mb : ME} (ha : RefE K ta ma) (hb : RefE K tb mb) : RefE K (tOrE (tOp rIxA ta tb) (tDGet ta tb)) (eOp fSubs ma mb) := ⟨fun p H σ α A l α' Q R e h => by
  have e0 := e
  simp only [eOp, Option.bind_eq_some_iff] at e
  obtain ⟨⟨l1, α1⟩, e1, ⟨l2, α2⟩, e2, a, e3, b, e4, c, e5, e6⟩ := e
  cases e6
  by_cases hd : a.isDict = true
  · right
    unfold fSubs at e5
    rw [if_pos hd] at e5
    obtain ⟨r, e7, e8⟩ := Option.bind_eq_some_iff.mp e5
    refine ha.go p H σ α A l1 α1 _ R e1 fun p1 H1 A1 v R1 S1 q1 => ?_
    refine hb.go p1 H1 σ α1 A1 l2 α2 _ R1 e2 fun p2 H2 A2 w R2 S2 q2 => ?_
    obtain ⟨ad, o, rfl, g, _, z⟩ := look_get (res_vz R2 (q1.step R1 S2) e3) (res_vz R2 q2 e4) e7
    rcases z with ⟨z, _⟩ | ⟨v, d, z1, z2, z3⟩
    · subst z; cases e8
    · subst z1
      cases e8
      subst z2
      exact ⟨ad, v, rfl, g, h p2 H2 A2 v R2 (S1.trans R S2) z3⟩
  · left
    refine (ref_op rr_ix ha hb).go p H σ α A _ α2 Q R ?_ h
    simp only [eOp, Option.bind_eq_some_iff]
    unfold fSubs at e5
    rw [if_neg hd] at e5
    exact ⟨⟨l1, α1⟩, e1, ⟨l2, α2⟩, e2, a, e3, b, e4, c, e5, rfl⟩⟩
def flatD : Da → Bool
  | .none => true
  | .bool _ => true
  | .int _ => true
  | .str _ => true
  | _ => false
def eqF : Da → Da → Bool
  | .none, .none => true
  | .bool a, .bool b => a == b
  | .bool a, .int b => (if a then 1 else 0) == b
  | .int a, .bool b => a == (if b then 1 else 0)
  | .int a, .int b => a == b
  | .str a, .str b => a == b
  | _, _ => false
def rInH (neg : Bool) : R2 := fun x y H Q => ∃ p xs, y = .ref p ∧ HasSeq H p xs ∧ flatV x = true ∧ xs.all flatV = true ∧ Q (.bl (if neg = true then !inV x xs else inV x xs)) H
theorem op_inH {X : Cx} : OpR X (compareOp .In) (rInH false) := opr_imp in_H fun x y H Q ⟨p, xs, h1, h2, h3, h4, h5⟩ => ⟨p, xs, h1, h2, h3, h4, h5⟩
theorem op_notInH {X : Cx} : OpR X (compareOp .NotIn) (rInH true) := opr_imp op_notIn_seq fun x y H Q ⟨p, xs, h1, h2, h3, h4, h5⟩ => ⟨p, xs, h1, h2.elim (fun z => .inl (.of z)) (fun z => .inr (.of z)), h3, h4, h5⟩
def rInS (neg : Bool) : R2 := fun x y H Q => ∃ (c : Nat) (z : Str), x = .str ⟨#[c]⟩ ∧ y = .str z ∧ Q (.bl (if neg = true then !decide (c ∈ z.cps.toList) else decide (c ∈ z.cps.toList))) H
theorem op_inSg {X : Cx} : OpR X (compareOp .In) (rInS false) := opr_imp op_in_sign fun x y H Q ⟨c, z, h1, h2, h3⟩ => ⟨c, z, h1, h2, h3⟩
theorem op_notInSg {X : Cx} : OpR X (compareOp .NotIn) (rInS true) := opr_imp op_notIn_sign fun x y H Q ⟨c, z, h1, h2, h3⟩ => ⟨c, z, h1, h2, h3⟩
def rInDl (neg : Bool) (K : PySem.W.Frag) : R2 := fun x y H Q => ∃ d ds, Dp K H x d ∧ Dp K H y (.list ds) ∧ SeqAt.shaped d = true ∧ SeqAt.shaped (.list ds) = true ∧ Q (.bl (if neg = true then !(ds.any fun z => PyData.eqv z d) else ds.any fun z => PyData.eqv z d)) H
theorem op_inDl {X : Cx} (hK : X.K = K) (hu : X.A.units + 65 < cLine) : OpR X (compareOp .In) (rInDl false K) := by subst hK; exact opr_imp (op_inD hu) fun x y H Q h => h
theorem op_notInDl {X : Cx} (hK : X.K = K) (hu : X.A.units + 65 < cLine) : OpR X (compareOp .NotIn) (rInDl true K) := by subst hK; exact opr_imp (op_notInD hu) fun x y H Q h => h
def rInA (neg : Bool) (K : PySem.W.Frag) : R2 := rOr (rInH neg) (rOr (rInS neg) (rInDl neg K))
theorem op_inA {X : Cx} (hK : X.K = K) (hu : X.A.units + 65 < cLine) : OpR X (compareOp .In) (rInA false K) := opr_or op_inH (opr_or op_inSg (op_inDl hK hu))
theorem op_notInA {X : Cx} (hK : X.K = K) (hu : X.A.units + 65 < cLine) : OpR X (compareOp .NotIn) (rInA true K) := opr_or op_notInH (opr_or op_notInSg (op_notInDl hK hu))
theorem flat_v {v : V} {x : Da} (h : Vz K p H v x) (f : flatD x = true) : flatV v = true ∧ ∀ {w : V} {y : Da}, Vz K p H w y → flatD y = true → eqV w v = eqF y x := by
  have nx : ∀ {w : V} {y : Da}, Vz K p H w y → flatD y = true → (w = .non ∧ y = .none) ∨ (∃ b, w = .bl b ∧ y = .bool b) ∨ (∃ i, w = .int i ∧ y = .int i) ∨ ∃ s, w = .str s ∧ y = .str s := fun {w y} h f => by
    cases y with
    | none => exact .inl ⟨vz_non h, rfl⟩
    | bool b => exact .inr (.inl ⟨b, vz_bl h, rfl⟩)
    | int i => exact .inr (.inr (.inl ⟨i, vz_int h, rfl⟩))
    | str s => exact .inr (.inr (.inr ⟨s, (vz_str h).1, rfl⟩))
    | _ => cases f
  refine ⟨?_, fun {w y} hw fw => ?_⟩
  · rcases nx h f with ⟨rfl, rfl⟩ | ⟨b, rfl, rfl⟩ | ⟨i, rfl, rfl⟩ | ⟨s, rfl, rfl⟩ <;> rfl
  · rcases nx h f with ⟨rfl, rfl⟩ | ⟨b, rfl, rfl⟩ | ⟨i, rfl, rfl⟩ | ⟨s, rfl, rfl⟩ <;> rcases nx hw fw with ⟨rfl, rfl⟩ | ⟨c, rfl, rfl⟩ | ⟨j, rfl, rfl⟩ | ⟨t, rfl, rfl⟩ <;> rfl
theorem flat_all {v : V} {x : Da} (h : Vz K p H v x) (f : flatD x = true) : ∀ {vs : List V} {xs : List Da}, DzA K p H vs xs → xs.all flatD = true → vs.all flatV = true ∧ inV v vs = xs.any fun y => eqF y x
  | _, _, .nil, _ => ⟨rfl, rfl⟩
  | _, _, .cons h1 t, fa => by
    rw [List.all_cons, Bool.and_eq_true] at fa
    obtain ⟨a, b⟩ := flat_all h f t fa.2
    refine ⟨by rw [List.all_cons, (flat_v (.of h1) fa.1).1, a]; rfl, ?_⟩
    show List.any _ _ = _
    rw [List.any_cons, List.any_cons, (flat_v h f).2 (.of h1) fa.1]
    exact congrArg _ b
def itemsD : Da → Option (List Da)
  | .list xs => some xs
  | .tuple xs => some xs
  | _ => none
def fInB (x : Da) : Da → Option Bool
  | .str z => match x with
    | .str ⟨⟨[c]⟩⟩ => some (decide (c ∈ z.cps.toList))
    | _ => none
  | .tuple xs => if flatD x = true ∧ xs.all flatD = true then some (xs.any fun y => eqF y x) else none
  | .list xs => if flatD x = true ∧ xs.all flatD = true then some (xs.any fun y => eqF y x) else
      (toPy x).bind fun d => (toPys xs).bind fun ds => if SeqAt.shaped d = true ∧ SeqAt.shaped (.list ds) = true then some (ds.any fun z => PyData.eqv z d) else none
  | y => (lookD y x).bind fun r => some r.isSome
def fIn (neg : Bool) (x y : Da) : Option Da := (fInB x y).map fun k => .bool (if neg = true then !k else k)
theorem ref_in_ {neg : Bool} {ta tb : TE} {ma mb : ME} {td : TE} (hd : td = if neg = true then tDNotIn ta tb else tDIn ta tb) (ha : RefE K ta ma) (hb : RefE K tb mb) : RefE K (tOrE (tOp (rInA neg K) ta tb) td) (eOp (fIn neg) ma mb) := ⟨fun p H σ α A l α' Q R e h => by
  simp only [eOp, Option.bind_eq_some_iff] at e
  obtain ⟨⟨l1, α1⟩, e1, ⟨l2, α2⟩, e2, a, e3, b, e4, c, e5, e6⟩ := e
  cases e6
  obtain ⟨k, e7, rfl⟩ := Option.map_eq_some_iff.mp e5
  have seq : (∀ p2 H2 A2 v w, Rel K p2 H2 σ α2 A2 → Vz K p2 H2 v a → Vz K p2 H2 w b → Q (.bl (if neg = true then !k else k)) H2 → rInA neg K v w H2 Q) → tOrE (tOp (rInA neg K) ta tb) td σ H Q := fun f => by
    left
    refine ha.go p H σ α A l1 α1 _ R e1 fun p1 H1 A1 v R1 S1 q1 => ?_
    refine hb.go p1 H1 σ α1 A1 l2 α2 _ R1 e2 fun p2 H2 A2 w R2 S2 q2 => ?_
    exact f p2 H2 A2 v w R2 (res_vz R2 (q1.step R1 S2) e3) (res_vz R2 q2 e4) (h p2 H2 A2 _ R2 (S1.trans R S2) (.bl _))
  have dic : ∀ r, lookD b a = some r → k = r.isSome → tOrE (tOp (rInA neg K) ta tb) td σ H Q := fun r el ek => by
    right
    subst hd
    cases neg with
    | true =>
      refine ha.go p H σ α A l1 α1 _ R e1 fun p1 H1 A1 v R1 S1 q1 => ?_
      refine hb.go p1 H1 σ α1 A1 l2 α2 _ R1 e2 fun p2 H2 A2 w R2 S2 q2 => ?_
      obtain ⟨ad, o, rfl, g, _, z⟩ := look_get (res_vz R2 q2 e4) (res_vz R2 (q1.step R1 S2) e3) el
      have ek' : o.isSome = k := by rcases z with ⟨rfl, rfl⟩ | ⟨v, d, rfl, rfl, _⟩ <;> exact ek.symm
      refine ⟨ad, o, rfl, g, ?_⟩
      rw [ek']
      exact h p2 H2 A2 _ R2 (S1.trans R S2) (.bl _)
    | false =>
      refine ha.go p H σ α A l1 α1 _ R e1 fun p1 H1 A1 v R1 S1 q1 => ?_
      refine hb.go p1 H1 σ α1 A1 l2 α2 _ R1 e2 fun p2 H2 A2 w R2 S2 q2 => ?_
      obtain ⟨ad, o, rfl, g, _, z⟩ := look_get (res_vz R2 q2 e4) (res_vz R2 (q1.step R1 S2) e3) el
      have ek' : o.isSome = k := by rcases z with ⟨rfl, rfl⟩ | ⟨v, d, rfl, rfl, _⟩ <;> exact ek.symm
      refine ⟨ad, o, rfl, g, ?_⟩
      rw [ek']
      exact h p2 H2 A2 _ R2 (S1.trans R S2) (.bl _)
  cases b with
  | str z =>
    simp only [fInB] at e7
    split at e7
    · cases e7
      exact seq fun p2 H2 A2 v w R2 hv hw q => .inr (.inl ⟨_, z, (vz_str hv).1, (vz_str hw).1, q⟩)
    · cases e7
  | tuple xs =>
    simp only [fInB] at e7
    split at e7
    · rename_i hf
      cases e7
      refine seq fun p2 H2 A2 v w R2 hv hw q => ?_
      obtain ⟨ad, vs, rfl, h1, h2, h3⟩ := vz_tup hw
      obtain ⟨f1, f2⟩ := flat_all hv hf.1 h3 hf.2
      exact .inl ⟨ad, vs, rfl, .inr h1, (flat_v hv hf.1).1, f1, by rw [f2]; exact q⟩
    · cases e7
  | list xs =>
    simp only [fInB] at e7
    split at e7
    · rename_i hf
      cases e7
      refine seq fun p2 H2 A2 v w R2 hv hw q => ?_
      obtain ⟨ad, vs, rfl, h1, h2, h3⟩ := vz_lst hw
      obtain ⟨f1, f2⟩ := flat_all hv hf.1 h3 hf.2
      exact .inl ⟨ad, vs, rfl, .inl h1, (flat_v hv hf.1).1, f1, by rw [f2]; exact q⟩
    · simp only [Option.bind_eq_some_iff] at e7
      obtain ⟨d, f1, ds, f2, f3⟩ := e7
      split at f3
      · rename_i hs
        cases f3
        refine seq fun p2 H2 A2 v w R2 hv hw q => .inr (.inr ⟨d, ds, vz_dp hv f1, vz_dp hw ?_, hs.1, hs.2, q⟩)
        simp only [toPy, f2, Option.map_some]
      · cases f3
  | dk kvs =>
    simp only [fInB, Option.bind_eq_some_iff] at e7
    obtain ⟨r, f1, f2⟩ := e7
    cases f2
    exact dic r f1 rfl
  | dt kvs =>
    simp only [fInB, Option.bind_eq_some_iff] at e7
    obtain ⟨r, f1, f2⟩ := e7
    cases f2
    exact dic r f1 rfl
  | _ => simp [fInB, lookD] at e7⟩
end
end Vm
namespace Vm
open PySem PySem.Spec PyProof.Rows L2 Gk
section
variable {prog : Program} {w : World} {κ : Type} [DecidableEq κ] {knd : HeapKind prog w κ} {A : Around} {E : Value → Shared → Prop} {s : Shared}
theorem truthy_dictH {d : Addr} {es : List (κ × Addr × Value)} {Q : Bool → Shared → Prop} (plain : (d == sysModules) = false) (at_ : s.heap.DictOfH knd d es) (few : (es.length : Int) < 2 ^ 63)
    (fin : Q (!es.isEmpty) { s with toks := s.toks + 1 + 1 }) : wpAny (model prog w) A (truthy (.ref d)) Q E s := by
  have yes : ((es.length : Int) != 0) = !es.isEmpty := by
    cases es with
    | nil => rfl
    | cons _ _ => simp; omega
  have body : wpAny (model prog w) A (runValue (.builtin "len" ⟨[.ref d], []⟩)) (fun n s1 => n = .int es.length (s.toks + 1) ∧ Q (!es.isEmpty) s1) E s := by
    apply wpAny_runValue
    apply codeAny_builtin entry_len
    rw [Around.under_plainId plain_len _]
    apply wpAny_mono (wpAny_len_body_dictH (Q := fun n s1 => n = .int es.length (s.toks + 1) ∧ Q (!es.isEmpty) s1) plain at_ few ⟨rfl, fin⟩)
    · rintro _ s1 ⟨n, rfl, q⟩
      exact q
    · exact fun _ _ q => q
  unfold truthy
  first
    | refine wpAny_bind (wpAny_callSpecial?_none (name := Str.ofString "__bool__") at_.typeIs noBool_dict (wpAny_bind (wpAny_specialOf (name := Str.ofString "__len__") at_.typeIs F.slot_dict_len.lookup ?_)))
    | refine wpAny_bind (wpAny_pure (wpAny_bind (wpAny_callSpecial?_none (name := Str.ofString "__bool__") at_.typeIs noBool_dict (wpAny_bind (wpAny_specialOf (name := Str.ofString "__len__") at_.typeIs F.slot_dict_len.lookup ?_)))))
    | refine wpAny_bind (wpAny_callSpecial?_none (name := Str.ofString "__bool__") at_.typeIs noBool_dict (wpAny_bind (wpAny_pure (wpAny_bind (wpAny_specialOf (name := Str.ofString "__len__") at_.typeIs F.slot_dict_len.lookup ?_)))))
    | refine wpAny_bind (wpAny_pure (wpAny_bind (wpAny_callSpecial?_none (name := Str.ofString "__bool__") at_.typeIs noBool_dict (wpAny_bind (wpAny_pure (wpAny_bind (wpAny_specialOf (name := Str.ofString "__len__") at_.typeIs F.slot_dict_len.lookup ?_)))))))
  first
    | exact wpAny_bind (thn body fun n s1 q => by obtain ⟨rfl, q⟩ := q; exact wpAny_pure (yes ▸ q))
    | exact wpAny_bind (wpAny_pure (wpAny_bind (thn body fun n s1 q => by obtain ⟨rfl, q⟩ := q; exact wpAny_pure (yes ▸ q))))
end
section
variable {K : PySem.W.Frag} {p p' p2 : List Addr} {H H' H2 : Hp} {σ σ' σ2 : L2.St} {α α' α2 α0 : AS} {A A' A2 : FT}
def truD : Da → Bool
  | .none => false
  | .bool b => b
  | .int i => i != 0
  | .str s => (s.length : Int) != 0
  | .list xs => !xs.isEmpty
  | .tuple xs => !xs.isEmpty
  | .dk xs => !xs.isEmpty
  | .dt xs => !xs.isEmpty
def rTru (x : V) (H : Hp) (Q : Bool → Hp → Prop) : Prop :=
  match x with
  | .non => Q false H
  | .bl b => Q b H
  | .int i => Q (i != 0) H
  | .str y => y.length ≤ sizeLine ∧ Q ((y.length : Int) != 0) H
  | .ref p => (∃ xs, HasSeq H p xs ∧ Q (!xs.isEmpty) H) ∨ (∃ kvs, Rd H p (.dK kvs) ∧ Q (!kvs.isEmpty) H) ∨ ∃ kvs, Rd H p (.dT kvs) ∧ Q (!kvs.isEmpty) H
  | _ => False
theorem empty_of {τ υ : Type} {xs : List τ} {ys : List υ} (h : xs.length = ys.length) : (!xs.isEmpty) = !ys.isEmpty := by
  cases xs <;> cases ys <;> first | rfl | cases h
theorem tru_any {X : Cx} : TruR X rTru := by
  intro pins s σ H x v Q I rx h
  have seq : ∀ k, TruV X.K x H k → Q k H → wpAny (model X.prog X.w) X.A (truthy v) (TP X pins σ Q) X.xe s := fun k t q => tru_ok pins s σ H x v Q I rx ⟨k, t, q⟩
  cases x with
  | non => exact seq false rfl h
  | bl b => exact seq b rfl h
  | int i => exact seq _ rfl h
  | str y => exact seq _ ⟨h.1, rfl⟩ h.2
  | ref a =>
    cases (show v = Value.ref a from rx)
    have hs0 : sizeLine = 16777216 := sizeLine_eq
    rcases h with ⟨xs, hs, q⟩ | ⟨kvs, hd, q⟩ | ⟨kvs, hd, q⟩
    · rcases hs with hs | hs
      · exact seq _ (.inl ⟨xs, .of hs, rfl⟩) q
      · exact seq _ (.inr (.inl ⟨xs, .of hs, rfl⟩)) q
    · obtain ⟨hz, hS, vs, r, m⟩ := dk_rd I.hok hd
      have hlen : kvs.length = vs.length := Paired.length r
      exact wpAny_truthy_dict hS m (by omega) ⟨H, I.tok _, by rw [isEmpty_kv r]; exact q⟩
    · obtain ⟨hz, hS, vs, r, m⟩ := dt_rd I.hok hd
      have hlen : kvs.length = vs.length := Paired.length r
      exact truthy_dictH hS m (by omega) ⟨H, I.tok _, by rw [empty_of hlen.symm]; exact q⟩
  | _ => exact h.elim
def tTru (t : TE) : TT := fun σ H Q => t σ H fun x H' => rTru x H' Q
theorem pt_tru {X : Cx} {a : Expr} {ta : TE} (ha : PE X a ta) (he : ∀ whole, isTrue a X.env whole = (do let v ← whole; standAt a.pos; holding [v] (truthy v)) := by intro _; rfl) : PT X a (tTru ta) := pt_truthR ha tru_any he
theorem rtru_of {v : V} {x : Da} {Q : Bool → Hp → Prop} (h : Vz K p H v x) (q : Q (truD x) H) : rTru v H Q := by
  cases x with
  | none => cases vz_non h; exact q
  | bool b => cases vz_bl h; exact q
  | int i => cases vz_int h; exact q
  | str s => obtain ⟨rfl, hl⟩ := vz_str h; exact ⟨sline _ hl, q⟩
  | list xs => obtain ⟨a, vs, rfl, h1, h2, h3⟩ := vz_lst h; exact .inl ⟨vs, .inl h1, by rw [empty_of h3.length]; exact q⟩
  | tuple xs => obtain ⟨a, vs, rfl, h1, h2, h3⟩ := vz_tup h; exact .inl ⟨vs, .inr h1, by rw [empty_of h3.length]; exact q⟩
  | dk xs => obtain ⟨a, vs, rfl, h1, h2, h3⟩ := vz_dk h; exact .inr (.inl ⟨vs, h1, by rw [empty_of h3.length]; exact q⟩)
  | dt xs => obtain ⟨a, vs, rfl, h1, h2, h3⟩ := vz_dt h; exact .inr (.inr ⟨vs, h1, by rw [empty_of h3.length]; exact q⟩)
def mTru (ma : ME) : MT := fun α => (ma α).bind fun x => (res x.2 x.1).bind fun a => some (truD a, x.2)
theorem ref_tru {ta : TE} {ma : ME} (ha : RefE K ta ma) : RefT K (tTru ta) (mTru ma) := ⟨fun p H σ α A b α' Q R e h => by
  simp only [mTru, Option.bind_eq_some_iff] at e
  obtain ⟨⟨l, α1⟩, e1, a, e2, e3⟩ := e
  cases e3
  refine ha.go p H σ α A l α1 _ R e1 fun p1 H1 A1 v R1 S1 q => ?_
  exact rtru_of (res_vz R1 q e2) (h p1 H1 A1 R1 S1)⟩
def tyN : Da → Option String
  | .none => some "NoneType"
  | .bool _ => some "bool"
  | .int _ => some "int"
  | .str _ => some "str"
  | .list _ => some "list"
  | .tuple _ => some "tuple"
  | .dk _ => some "dict"
  | .dt _ => none
theorem vz_ty {v : V} {x : Da} {t : String} (h : Vz K p H v x) (e : tyN x = some t) : TyX K H v (.type t) := by
  cases x with
  | none => cases e; cases vz_non h; exact .base .non
  | bool b => cases e; cases vz_bl h; exact .base (.bl b)
  | int i => cases e; cases vz_int h; exact .base (.int i)
  | str s => cases e; obtain ⟨rfl, _⟩ := vz_str h; exact .base (.str s)
  | list xs => cases e; obtain ⟨a, vs, rfl, h1, _⟩ := vz_lst h; exact .base (.lst h1)
  | tuple xs => cases e; obtain ⟨a, vs, rfl, h1, _⟩ := vz_tup h; exact .base (.tup h1)
  | dk xs =>
    cases e
    obtain ⟨a, vs, rfl, h1, _⟩ := vz_dk h
    rcases h1 with h1 | ⟨o, h1⟩
    · exact .base (.dK h1)
    · exact .fDict h1
  | dt xs => cases e
theorem call_isiK {X : Cx} (hK : X.K = K) : CallR X (.builtin "isinstance") (rIsi K) := by subst hK; exact call_isi
def isiB (T t : String) : Option Bool := kitB t T
def eIsi (T : String) (ma : ME) : ME := fun α => (ma α).bind fun x => (res x.2 x.1).bind fun a => (tyN a).bind fun t => (isiB T t).bind fun b => some (.d (.bool b), x.2)
theorem ref_isi {T : String} {ta : TE} {ma : ME} (ha : RefE K ta ma) : RefE K (tCB (rIsi K) (tCons ta (tCons (tC (.ty T)) tNil))) (eIsi T ma) := ⟨fun p H σ α A l α' Q R e h => by
  simp only [eIsi, Option.bind_eq_some_iff] at e
  obtain ⟨⟨l1, α1⟩, e1, a, e2, t, e3, b, e4, e5⟩ := e
  cases e5
  refine ha.go p H σ α A l1 α1 _ R e1 fun p1 H1 A1 v R1 S1 q => ?_
  exact ⟨v, .ty T, .type t, .type T, b, rfl, .ty T, vz_ty (res_vz R1 q e2) e3, kit_ty e4, h p1 H1 A1 _ R1 S1 (.bl b)⟩⟩
def rAbs : List V → Hp → VK → Prop := fun xs H Q => ∃ i, xs = [.int i] ∧ Q (.int (if i < 0 then -i else i)) H
def rMax : List V → Hp → VK → Prop := fun xs H Q => ∃ i j, xs = [.int i, .int j] ∧ Q (.int (if j > i then j else i)) H
def rMin : List V → Hp → VK → Prop := fun xs H Q => ∃ i j, xs = [.int i, .int j] ∧ Q (.int (if j < i then j else i)) H
def rInt1 : List V → Hp → VK → Prop := fun xs H Q => (∃ i, xs = [.int i] ∧ Q (.int i) H) ∨ ∃ k, xs = [.bl k] ∧ Q (.int (if k then 1 else 0)) H
theorem cr_abs {X : Cx} : CallR X (.builtin "abs") rAbs := call_abs
theorem cr_max {X : Cx} (hc : X.calm = true) : CallR X (.builtin "max") rMax := call_max2 hc
theorem cr_min {X : Cx} (hc : X.calm = true) : CallR X (.builtin "min") rMin := call_min2 hc
theorem cr_int {X : Cx} : CallR X (.type "int") rInt1 := call_int1
def fAbs : List Da → Option Da
  | [.int i] => some (.int (if i < 0 then -i else i))
  | _ => none
def fMax : List Da → Option Da
  | [.int i, .int j] => some (.int (if j > i then j else i))
  | _ => none
def fMin : List Da → Option Da
  | [.int i, .int j] => some (.int (if j < i then j else i))
  | _ => none
def fInt : List Da → Option Da
  | [.int i] => some (.int i)
  | [.bool k] => some (.int (if k then 1 else 0))
  | _ => none
theorem vz1 {xs : List V} {a : Da} (h : VzA K p H xs [a]) : ∃ v, xs = [v] ∧ Vz K p H v a := by
  cases h with
  | cons h t => cases t; exact ⟨_, rfl, h⟩
theorem vz2 {xs : List V} {a b : Da} (h : VzA K p H xs [a, b]) : ∃ v w, xs = [v, w] ∧ Vz K p H v a ∧ Vz K p H w b := by
  cases h with
  | cons h t =>
    obtain ⟨w, rfl, hw⟩ := vz1 t
    exact ⟨_, w, rfl, h, hw⟩
theorem rr_abs : RefRA K rAbs fAbs := fun p H xs as c Q al va e q => by
  unfold fAbs at e
  split at e
  · cases e
    obtain ⟨v, rfl, h⟩ := vz1 va
    cases vz_int h
    exact ⟨_, rfl, q _ H (Same.refl H) (.int _)⟩
  · cases e
theorem rr_max : RefRA K rMax fMax := fun p H xs as c Q al va e q => by
  unfold fMax at e
  split at e
  · cases e
    obtain ⟨v, w, rfl, h, h'⟩ := vz2 va
    cases vz_int h
    cases vz_int h'
    exact ⟨_, _, rfl, q _ H (Same.refl H) (.int _)⟩
  · cases e
theorem rr_min : RefRA K rMin fMin := fun p H xs as c Q al va e q => by
  unfold fMin at e
  split at e
  · cases e
    obtain ⟨v, w, rfl, h, h'⟩ := vz2 va
    cases vz_int h
    cases vz_int h'
    exact ⟨_, _, rfl, q _ H (Same.refl H) (.int _)⟩
  · cases e
theorem rr_int : RefRA K rInt1 fInt := fun p H xs as c Q al va e q => by
  unfold fInt at e
  split at e
  · cases e
    obtain ⟨v, rfl, h⟩ := vz1 va
    cases vz_int h
    exact .inl ⟨_, rfl, q _ H (Same.refl H) (.int _)⟩
  · cases e
    obtain ⟨v, rfl, h⟩ := vz1 va
    cases vz_bl h
    exact .inr ⟨_, rfl, q _ H (Same.refl H) (.int _)⟩
  · cases e
def rLenB : List V → Hp → VK → Prop := fun xs H Q => rLenA xs H Q ∨ (∃ p kvs, xs = [.ref p] ∧ Rd H p (.dK kvs) ∧ Q (.int ((kvs.length : Nat) : Int)) H) ∨ ∃ p kvs, xs = [.ref p] ∧ Rd H p (.dT kvs) ∧ Q (.int ((kvs.length : Nat) : Int)) H
theorem len_all {X : Cx} : CallR X (.builtin "len") rLenB := by
  intro pins s σ H xs us Q I r h
  have hs0 : sizeLine = 16777216 := sizeLine_eq
  rcases h with h | ⟨a, kvs, rfl, hd, q⟩ | ⟨a, kvs, rfl, hd, q⟩
  · exact len_any pins s σ H xs us Q I r h
  · obtain ⟨u, rfl, rx⟩ := vals1 r
    obtain rfl : u = .ref a := rx
    obtain ⟨z, hd, ys, rel, dd⟩ := dk_rd I.hok hd
    have hl : kvs.length = ys.length := Paired.length rel
    refine call_len_dict hd dd (by omega) ?_
    rw [← hl]
    exact ⟨.int ((kvs.length : Nat) : Int), H, I.tok _, ⟨_, rfl⟩, q⟩
  · obtain ⟨u, rfl, rx⟩ := vals1 r
    obtain rfl : u = .ref a := rx
    obtain ⟨z, hd, ys, rel, dd⟩ := dt_rd I.hok hd
    have hl : kvs.length = ys.length := Paired.length rel
    refine call_len_dictH hd dd (by omega) ?_
    rw [← hl]
    exact ⟨.int ((kvs.length : Nat) : Int), H, I.tok _, ⟨_, rfl⟩, q⟩
def fLenB : List Da → Option Da
  | [.dk xs] => some (.int ((xs.length : Nat) : Int))
  | [.dt xs] => some (.int ((xs.length : Nat) : Int))
  | as => fLen as
theorem rr_lenB : RefRA K rLenB fLenB := fun p H xs as c Q al va e q => by
  unfold fLenB at e
  split at e
  · cases e
    obtain ⟨v, rfl, h⟩ := vz1 va
    obtain ⟨a, vs, rfl, h1, h2, h3⟩ := vz_dk h
    refine .inr (.inl ⟨a, vs, rfl, h1, ?_⟩)
    rw [h3.length]
    exact q _ H (Same.refl H) (.int _)
  · cases e
    obtain ⟨v, rfl, h⟩ := vz1 va
    obtain ⟨a, vs, rfl, h1, h2, h3⟩ := vz_dt h
    refine .inr (.inr ⟨a, vs, rfl, h1, ?_⟩)
    rw [h3.length]
    exact q _ H (Same.refl H) (.int _)
  · exact .inl (rr_len p H xs _ c Q al va e q)
instance (a b : Int) : Decidable (RgOk a b) := by unfold RgOk; infer_instance
def strsD : List Da → Option (List Str)
  | [] => some []
  | .str s :: r => (strsD r).bind fun ss => some (s :: ss)
  | _ => none
theorem strs_dz : ∀ {vs : List V} {xs : List Da} {ss : List Str}, DzA K p H vs xs → strsD xs = some ss → vs = ss.map V.str
  | _, _, _, .nil, e => by cases e; rfl
  | _, _, _, .cons (d := d) h t, e => by
    cases d with
    | str s =>
      simp only [strsD, Option.bind_eq_some_iff] at e
      obtain ⟨ss, e1, e2⟩ := e
      cases e2
      rw [(vz_str (.of h)).1, strs_dz t e1]
      rfl
    | _ => cases e
def fJoin (a b : Da) : Option Da := match a with
  | .str a => (itemsD b).bind fun xs => (strsD xs).bind fun ys => if (ys.map (·.length)).sum + ys.length * a.length ≤ SLIM ∧ (Txt.join a ys).length ≤ SLIM then some (.str (Txt.join a ys)) else none
  | _ => none
def rJoin : V → List V → Hp → VK → Prop := fun x xs H Q => ∃ a p, ∃ ys : List Str, x = .str a ∧ xs = [.ref p] ∧ HasSeq H p (ys.map V.str) ∧ (ys.map (·.length)).sum + ys.length * a.length ≤ 16777216 ∧ Q (.str (Txt.join a ys)) H
theorem pe_joinH {X : Cx} {o e : Expr} {to te : TE} {apos pos : Pos} (ho : PE X o to) (he : PE X e te) (hs : starEach [e] X.env = [(false, eval e X.env)] := by rfl) (hbase : attributeBase o "join" X.env (eval o X.env) = eval o X.env := by rfl) (hline : (apos.endLine == pos.line) = true := by rfl) :
    PE X (.Call (.Attribute o "join" apos) [e] [] pos) (tM1 rJoin to te) :=
  pe_m1 F.slot_str_join F.type_str_join (fun pins s σ H x xs v us Q I rx rs ⟨a, q, ys, h1, h2, h3, h4, h5⟩ => mt_join pins s σ H x xs v us Q I rx rs ⟨a, q, ys, h1, h2, h3.elim (fun z => .inl (.of z)) (fun z => .inr (.of z)), h4, h5⟩) ho he hs hbase hline
def eJoin (ma mb : ME) : ME := fun α => (ma α).bind fun x => (res x.2 x.1).bind fun a0 => match a0 with
  | .str a => (mb x.2).bind fun y => (res y.2 y.1).bind fun b => (fJoin (.str a) b).bind fun c => some (.d c, y.2)
  | _ => none
theorem ref_join {ta tb : TE} {ma mb : ME} (ha : RefE K ta ma) (hb : RefE K tb mb) : RefE K (tM1 rJoin ta tb) (eJoin ma mb) := ⟨fun p H σ α A l α' Q R e h => by
  simp only [eJoin, Option.bind_eq_some_iff] at e
  obtain ⟨⟨l1, α1⟩, e1, a0, e0, e⟩ := e
  split at e
  · rename_i a
    simp only [Option.bind_eq_some_iff] at e
    obtain ⟨⟨l2, α2⟩, e2, b, e3, c, e4, e5⟩ := e
    cases e5
    refine ha.go p H σ α A l1 α1 _ R e1 fun p1 H1 A1 v R1 S1 q1 => ?_
    obtain ⟨rfl, _⟩ := vz_str (res_vz R1 q1 e0)
    refine ⟨⟨a, rfl⟩, ?_⟩
    refine hb.go p1 H1 σ α1 A1 l2 α2 _ R1 e2 fun p2 H2 A2 w R2 S2 q2 => ?_
    have z := res_vz R2 q2 e3
    simp only [fJoin, Option.bind_eq_some_iff] at e4
    obtain ⟨xs, f1, ys, f2, f3⟩ := e4
    split at f3
    · rename_i hl
      cases f3
      have fin : ∀ ad vs, DzA K p2 H2 vs xs → HasSeq H2 ad vs → rJoin (.str a) [.ref ad] H2 Q := fun ad vs dz hs => by
        refine ⟨a, ad, ys, rfl, rfl, by rw [← strs_dz dz f2]; exact hs, Nat.le_trans hl.1 (by decide), ?_⟩
        exact h p2 H2 A2 _ R2 (S1.trans R S2) (.str _ hl.2)
      cases b with
      | list ys' => cases f1; obtain ⟨ad, vs, rfl, h1, h2, h3⟩ := vz_lst z; exact fin ad vs h3 (.inl h1)
      | tuple ys' => cases f1; obtain ⟨ad, vs, rfl, h1, h2, h3⟩ := vz_tup z; exact fin ad vs h3 (.inr h1)
      | _ => cases f1
    · cases f3
  · cases e⟩
mutual
def toPyR : Da → Option PyData
  | .none => some .none
  | .bool b => some (.bool b)
  | .int i => some (.int i)
  | .str s => if s.length ≤ 100000 then some (.str s) else none
  | .list xs => if xs.length ≤ 100000 then (toPysR xs).map .list else none
  | .tuple xs => if xs.length ≤ 100000 then (toPysR xs).map .tuple else none
  | _ => none
def toPysR : List Da → Option (List PyData)
  | [] => some []
  | x :: xs => (toPyR x).bind fun d => (toPysR xs).bind fun ds => some (d :: ds)
end
mutual
theorem dz_dx : ∀ {v : V} {x : Da} {d : PyData}, Dz K p H v x → toPyR x = some d → Dx [] H v d
  | _, _, _, .non, e => by cases e; exact .non
  | _, _, _, .bl b, e => by cases e; exact .bl b
  | _, _, _, .int i, e => by cases e; exact .int i
  | _, _, _, .str x h, e => by
    simp only [toPyR] at e
    split at e
    · cases e; exact .str x (by assumption)
    · cases e
  | _, _, _, .lst n r l h, e => by
    simp only [toPyR] at e
    split at e
    · rename_i hl
      simp only [Option.map_eq_some_iff] at e
      obtain ⟨ds, e1, rfl⟩ := e
      exact .lst r (List.not_mem_nil) (by rw [h.length]; exact hl) (dzA_dx h e1)
    · cases e
  | _, _, _, .tup r l h, e => by
    simp only [toPyR] at e
    split at e
    · rename_i hl
      simp only [Option.map_eq_some_iff] at e
      obtain ⟨ds, e1, rfl⟩ := e
      exact .tup r (by rw [h.length]; exact hl) (dzA_dx h e1)
    · cases e
  | _, _, _, .dk _ _ _ _, e => by cases e
  | _, _, _, .dt _ _ _ _, e => by cases e
theorem dzA_dx : ∀ {vs : List V} {xs : List Da} {ds : List PyData}, DzA K p H vs xs → toPysR xs = some ds → DxA [] H vs ds
  | _, _, _, .nil, e => by cases e; exact .nil
  | _, _, _, .cons h t, e => by
    simp only [toPysR, Option.bind_eq_some_iff] at e
    obtain ⟨d, e1, ds, e2, e3⟩ := e
    cases e3
    exact .cons (dz_dx h e1) (dzA_dx t e2)
end
theorem vz_dx {v : V} {x : Da} {d : PyData} (h : Vz K p H v x) (e : toPyR x = some d) : Dx [] H v d := by
  cases h with
  | of h => exact dz_dx h e
  | top h =>
    cases x with
    | list ys =>
      obtain ⟨vs, h1, h2, h3⟩ := h
      simp only [toPyR] at e
      split at e
      · rename_i hl
        simp only [Option.map_eq_some_iff] at e
        obtain ⟨ds, e1, rfl⟩ := e
        exact .lst h1 List.not_mem_nil (by rw [h3.length]; exact hl) (dzA_dx h3 e1)
      · cases e
    | dk ys => cases e
    | dt ys => cases e
    | _ => exact h.elim
open Classical in
noncomputable def fRepr : List Da → Option Da
  | [x] => (toPyR x).bind fun d => if Shows d then some (.str d.shown) else none
  | _ => none
theorem rr_repr : RefRA K (rRepr []) fRepr := fun p H xs as c Q al va e q => by
  unfold fRepr at e
  split at e
  · simp only [Option.bind_eq_some_iff] at e
    obtain ⟨d, e1, e2⟩ := e
    split at e2
    · rename_i hs
      cases e2
      obtain ⟨v, rfl, h⟩ := vz1 va
      have hx : Dx [] H v d := vz_dx h e1
      exact ⟨v, d, rfl, hx, hs, q _ H (Same.refl H) (.str _ hs.size)⟩
    · cases e2
  · cases e
end
end Vm
namespace Vm
open PySem PySem.Spec PyProof.Rows L2 Gk
section
variable {K : PySem.W.Frag} {p p' p2 : List Addr} {H H' H2 : Hp} {σ σ' σ2 : L2.St} {α α' α2 α0 : AS} {A A' A2 : FT}
theorem Rel.own_ext (R : Rel K p H σ α A) {i : Nat} {a : Addr} {φ : Heap → Prop} (h : a ∈ A i) (e : H a = some (.ext φ)) : False := by
  obtain ⟨r, er⟩ := R.has_slot h
  obtain ⟨v, q, z⟩ := (R.sl i r er).mut a h
  rcases q with q | ⟨o, q⟩
  · rw [e] at q
    cases q
    rcases z with ⟨_, z⟩ | ⟨_, z⟩ | ⟨_, z⟩ <;> cases z
  · rw [e] at q
    cases q
theorem Rel.tb_own {i : Nat} {q : List Addr} (R : Rel K p H σ α A) (keep : ∀ b o, H b = some o → b ∉ A i → H' b = some o) (hq : ∀ b ∈ q, b ∈ p ∨ H b = none) : TabP q H' := by
  refine ⟨fun t mt => ?_, fun t mt m => ?_⟩
  · obtain ⟨ps, h1, h2, h3⟩ := R.tb.1 t mt
    refine ⟨ps, keep _ _ h1 fun z => R.tb.2 t mt (R.inp i _ z), h2, fun pos cv hc => ?_⟩
    obtain ⟨c, e1, e2⟩ := h3 pos cv hc
    exact ⟨c, e1, keep _ _ e2 fun z => R.own_ext z e2⟩
  · obtain ⟨ps, h1, _⟩ := R.tb.1 t mt
    rcases hq _ m with z | z
    · exact R.tb.2 t mt z
    · rw [h1] at z; cases z
theorem root_core {i : Nat} {q q' : AV} {f' : List Addr} (R : Rel K p H σ α A) (hi : α[i]? = some q) (kin : Kin q q') (hs : SlotR K p' H' (σ[i]?).join f' q') (t : Tr p H p' H') (keep : ∀ b o, H b = some o → b ∉ A i → H' b = some o)
    (dom : ∀ b, H' b = none → H b = none) (hp : ∀ b ∈ p, b ∈ p') (hp' : ∀ b ∈ p', b ∈ p ∨ H b = none) (al : ∀ b ∈ p', H' b ≠ none) (nd : f'.Nodup) (hin : ∀ b ∈ f', b ∈ p') (new : ∀ b ∈ f', b ∈ A i ∨ H b = none) :
    Rel K p' H' σ (α.set i q') (setF A i f') ∧ Step p H σ α A p' H' σ (α.set i q') (setF A i f') := by
  have hia : i < α.length := getElem?_lt hi
  refine ⟨⟨by rw [List.length_set]; exact R.len, fun j r e => ?_, fun j e => ?_, fun j => ?_, fun j k a h1 h2 => ?_, fun j a h => ?_, al, R.tb_own keep hp'⟩,
    ⟨fun b o _ e n => .inl (keep b o e (n i)), dom, fun j b h => ?_, hp', fun b h => .inl (hp b h), by rw [List.length_set], fun j r e f => ⟨rfl, ?_⟩, fun j r e f => ?_⟩⟩
  · by_cases z : j = i
    · subst z
      rw [List.getElem?_set_self hia] at e
      cases e
      rw [setF_same]
      exact hs
    · rw [List.getElem?_set_ne (fun y => z y.symm)] at e
      rw [setF_ne z]
      exact (R.sl j r e).tr t fun c m u hu => keep c u hu fun mi => z (R.dj j i c m mi)
  · have z : j ≠ i := fun z => by subst z; rw [List.getElem?_set_self hia] at e; cases e
    rw [List.getElem?_set_ne (fun y => z y.symm)] at e
    rw [setF_ne z]
    exact R.out j e
  · by_cases z : j = i
    · subst z; rw [setF_same]; exact nd
    · rw [setF_ne z]; exact R.nd j
  · have one : ∀ k, k ≠ i → a ∈ f' → a ∉ A k := fun k hk m1 m2 => by
      rcases new a m1 with y | y
      · exact hk (R.dj k i a m2 y)
      · exact R.in_al m2 y
    rcases setF_mem h1 with ⟨rfl, m1⟩ | ⟨n1, m1⟩ <;> rcases setF_mem h2 with ⟨rfl, m2⟩ | ⟨n2, m2⟩
    · rfl
    · exact (one k n2 m1 m2).elim
    · exact (one j n1 m2 m1).elim
    · exact R.dj j k a m1 m2
  · rcases setF_mem h with ⟨_, m⟩ | ⟨_, m⟩
    · exact hin a m
    · exact hp a (R.inp j a m)
  · rcases setF_mem h with ⟨rfl, m⟩ | ⟨_, m⟩
    · exact new b m
    · exact .inl m
  · by_cases z : j = i
    · subst z
      rw [hi] at e
      cases e
      exact ⟨q', List.getElem?_set_self hia, kin⟩
    · exact ⟨r, by rw [List.getElem?_set_ne (fun y => z y.symm)]; exact e, .refl⟩
  · by_cases z : j = i
    · subst z
      rw [List.getElem?_set_self hia] at e
      cases e
      exact ⟨q, hi, by rw [← kin.fx]; exact f⟩
    · rw [List.getElem?_set_ne (fun y => z y.symm)] at e
      exact ⟨r, e, f⟩
/-- an own flat thing changed at its place -/
theorem root_put {i : Nat} {fx : Bool} {x x' : Da} {a : Addr} {o o' : HO} (R : Rel K p H σ α A) (hi : α[i]? = some (.r fx false x)) (hs : (σ[i]?).join = some (.ref a)) (ho : H a = some o) (hn : HO.noTup o) (ha : A i = [a])
    (top : Top K p (L2.upd H a o') false a x') :
    Rel K p (L2.upd H a o') σ (α.set i (.r fx false x')) (setF A i [a]) ∧ Step p H σ α A p (L2.upd H a o') σ (α.set i (.r fx false x')) (setF A i [a]) := by
  have am : a ∈ A i := by rw [ha]; exact List.mem_cons_self ..
  have hp := R.inp i a am
  refine root_core R hi ⟨rfl, rfl, rfl, fun z => by cases z⟩ (by rw [hs]; exact ⟨a, rfl, rfl, top⟩) (tr_upd hp ho hn) (fun b u e n => ?_) (fun b e => ?_) (fun b h => h) (fun b h => .inl h) (fun b h z => ?_) (by simp) (fun b m => by cases List.mem_singleton.mp m; exact hp) (fun b m => by cases List.mem_singleton.mp m; exact .inl am)
  · rw [upd_ne (fun z => n (by rw [z]; exact am))]; exact e
  · by_cases z : b = a
    · subst z; rw [upd_same] at e; cases e
    · rw [upd_ne z] at e; exact e
  · by_cases y : b = a
    · subst y; rw [upd_same] at z; cases z
    · rw [upd_ne y] at z; exact R.al b h z
theorem root_at {i : Nat} {fx lk : Bool} {x : Da} (R : Rel K p H σ α A) (hi : α[i]? = some (.r fx lk x)) : ∃ a, σ[i]? = some (some (.ref a)) ∧ A i = [a] ∧ Top K p H lk a x := by
  obtain ⟨v, hv⟩ := R.has hi (by intro z; cases z)
  obtain ⟨a, e, ha, t⟩ := R.sl i _ hi
  rw [join_of hv] at e
  cases e
  exact ⟨a, hv, ha, t⟩
def AV.asR : AV → Option (Bool × Da)
  | .r f false x => some (f, x)
  | _ => none
theorem asR_some {q : AV} {f : Bool} {x : Da} (h : q.asR = some (f, x)) : q = .r f false x := by
  cases q with
  | r a b c => cases b <;> cases h; rfl
  | _ => cases h
def rootAt (α : AS) (i : Nat) : Option (Bool × Da) := (α[i]?).bind AV.asR
theorem rootAt_some {i : Nat} {f : Bool} {x : Da} (h : rootAt α i = some (f, x)) : α[i]? = some (.r f false x) := by
  obtain ⟨q, e1, e2⟩ := Option.bind_eq_some_iff.mp h
  rw [e1, asR_some e2]
def sAppend (i : Nat) (ma : MA) : MS := fun α => match rootAt α i with
  | some (_, .list _) => (ma α).bind fun x => (ownA x.2 x.1).bind fun ys => match ys, rootAt x.2 i with
    | [y], some (f, .list xs) => if xs.length < LIM then some (.nx (x.2.set i (.r f false (.list (xs ++ [y]))))) else none
    | _, _ => none
  | _ => none
theorem ref_append {i : Nat} {ta : TA} {ma : MA} (ha : RefA K ta ma) : RefS K (tDrop (tBM K "list" rAppend (tVar i) ta)) (sAppend i ma) := ⟨fun p H σ α A o D R e h => by
  unfold sAppend at e
  split at e
  · rename_i f0 xs0 h0
    obtain ⟨a, hs, ha0, vs, h1, h2, h3⟩ := root_at R (rootAt_some h0)
    refine ⟨.ref a, hs, .inl ⟨rfl, vs, .of h1⟩, ?_⟩
    simp only [Option.bind_eq_some_iff] at e
    obtain ⟨⟨l, α1⟩, e1, ys, e2, e3⟩ := e
    split at e3
    · rename_i y f xs hr
      split at e3
      · rename_i hlt
        cases e3
        refine ha.go p H σ α A l α1 _ R e1 fun p1 H1 A1 us R1 S1 q1 => ?_
        have zu := ownA_dz R1 q1 e2
        cases zu with
        | @cons u _ _ _ d1 d2 =>
          cases d2
          obtain ⟨b, hs1, ha1, ws, w1, w2, w3⟩ := root_at R1 (rootAt_some hr)
          rw [hs] at hs1
          cases hs1
          have lw : ws.length < LIM := by rw [w3.length]; exact hlt
          refine ⟨a, ws, _, rfl, rfl, w1, line_lt w2, ?_⟩
          have hp := R1.inp i a (by rw [ha1]; exact List.mem_cons_self ..)
          have t : Tr p1 H1 p1 (L2.upd H1 a (.lst (ws ++ [u]))) := tr_upd hp w1 trivial
          have ⟨P, S⟩ := root_put (x' := .list (xs ++ [y])) (o' := .lst (ws ++ [u])) R1 (rootAt_some hr) (join_of hs) w1 trivial ha1 ⟨_, upd_same, by rw [List.length_append]; exact lw, (w3.append (.cons d1 .nil)).tr t⟩
          exact h p1 _ σ _ P (S1.trans R S)
      · cases e3
    · cases e3
  · cases e⟩
theorem DzK.any (k : Key) : ∀ {xs : List (Key × V)} {ds : List (Key × Da)}, DzK K p H xs ds → (xs.any fun kv => decide (kv.1 = k)) = ds.any fun kv => decide (kv.1 = k)
  | _, _, .nil => rfl
  | _, _, .cons _ _ t => by rw [List.any_cons, List.any_cons, DzK.any k t]
theorem DzT.any (k : List Key) : ∀ {xs : List (List Key × V)} {ds : List (List Key × Da)}, DzT K p H xs ds → (xs.any fun kv => decide (kv.1 = k)) = ds.any fun kv => decide (kv.1 = k)
  | _, _, .nil => rfl
  | _, _, .cons _ _ t => by rw [List.any_cons, List.any_cons, DzT.any k t]
def putD {κ τ : Type} [DecidableEq κ] (kvs : List (κ × τ)) (k : κ) (v : τ) : List (κ × τ) :=
  if (kvs.any fun kv => decide (kv.1 = k)) = true then kvs.map (fun kv => if kv.1 = k then (kv.1, v) else kv) else kvs ++ [(k, v)]
theorem DzK.map {k : Key} {v : V} {d : Da} (hd : Dz K p H v d) : ∀ {xs : List (Key × V)} {ds : List (Key × Da)}, DzK K p H xs ds → DzK K p H (xs.map fun kv => if kv.1 = k then (kv.1, v) else kv) (ds.map fun kv => if kv.1 = k then (kv.1, d) else kv)
  | _, _, .nil => .nil
  | _, _, .cons (k := j) h x t => by
    rw [List.map_cons, List.map_cons]
    by_cases e : j = k
    · rw [if_pos e, if_pos e]; exact .cons h hd (DzK.map hd t)
    · rw [if_neg e, if_neg e]; exact .cons h x (DzK.map hd t)
theorem DzT.map {k : List Key} {v : V} {d : Da} (hd : Dz K p H v d) : ∀ {xs : List (List Key × V)} {ds : List (List Key × Da)}, DzT K p H xs ds → DzT K p H (xs.map fun kv => if kv.1 = k then (kv.1, v) else kv) (ds.map fun kv => if kv.1 = k then (kv.1, d) else kv)
  | _, _, .nil => .nil
  | _, _, .cons (k := j) h x t => by
    rw [List.map_cons, List.map_cons]
    by_cases e : j = k
    · rw [if_pos e, if_pos e]; exact .cons h hd (DzT.map hd t)
    · rw [if_neg e, if_neg e]; exact .cons h x (DzT.map hd t)
theorem DzK.append : ∀ {xs ys : List (Key × V)} {ds es : List (Key × Da)}, DzK K p H xs ds → DzK K p H ys es → DzK K p H (xs ++ ys) (ds ++ es)
  | _, _, _, _, .nil, s => s
  | _, _, _, _, .cons h x t, s => .cons h x (DzK.append t s)
theorem DzT.append : ∀ {xs ys : List (List Key × V)} {ds es : List (List Key × Da)}, DzT K p H xs ds → DzT K p H ys es → DzT K p H (xs ++ ys) (ds ++ es)
  | _, _, _, _, .nil, s => s
  | _, _, _, _, .cons h x t, s => .cons h x (DzT.append t s)
theorem DzK.put {k : Key} {v : V} {d : Da} (hk : KeyOk k) (hd : Dz K p H v d) {xs : List (Key × V)} {ds : List (Key × Da)} (h : DzK K p H xs ds) : DzK K p H (putK xs k v) (putD ds k d) := by
  unfold putK putD
  rw [h.any k]
  split
  · exact h.map hd
  · exact h.append (.cons hk hd .nil)
theorem DzT.put {k : List Key} {v : V} {d : Da} (hk : (∀ x ∈ k, KeyOk x) ∧ k.length ≤ LIM) (hd : Dz K p H v d) {xs : List (List Key × V)} {ds : List (List Key × Da)} (h : DzT K p H xs ds) : DzT K p H (putK xs k v) (putD ds k d) := by
  unfold putK putD
  rw [h.any k]
  split
  · exact h.map hd
  · exact h.append (.cons hk hd .nil)
/-- what x[k] = v makes of x -/
def setDa (x k v : Da) : Option Da := match x with
  | .list xs => match k with
    | .int j => (ixN xs.length j).bind fun n => some (.list (xs.set n v))
    | _ => none
  | .dk kvs => (keyD k).bind fun j => if kvs.length < LIM then some (.dk (putD kvs j v)) else none
  | .dt kvs => (keyT k).bind fun j => if kvs.length < LIM then some (.dt (putD kvs j v)) else none
  | _ => none
theorem put_top {x k v x' : Da} {a : Addr} {vk vv : V} (hp : a ∈ p) (t : Top K p H false a x) (hd : x.isDict = true) (hk : Vz K p H vk k) (hv : Dz K p H vv v) (e : setDa x k v = some x') :
    ∃ o o', H a = some o ∧ HO.noTup o ∧ DPut H a vk vv (L2.upd H a o') ∧ Top K p (L2.upd H a o') false a x' := by
  cases x with
  | dk kvs =>
    obtain ⟨xs, h1, h2, h3⟩ := t
    have h1 := h1.ex
    simp only [setDa, Option.bind_eq_some_iff] at e
    obtain ⟨j, e1, e2⟩ := e
    split at e2
    · rename_i hl
      cases e2
      obtain ⟨rfl, ok⟩ := vz_key hk e1
      have lx : xs.length < LIM := by rw [h3.length]; exact hl
      refine ⟨_, .dK (putK xs j vv), h1, trivial, .inl ⟨xs, j, h1, rfl, line_lt h2, rfl⟩, _, .of upd_same, ?_, (h3.put ok hv).tr (tr_upd hp h1 trivial)⟩
      have := length_putK xs j vv
      omega
    · cases e2
  | dt kvs =>
    obtain ⟨xs, h1, h2, h3⟩ := t
    have h1 := h1.ex
    simp only [setDa, Option.bind_eq_some_iff] at e
    obtain ⟨j, e1, e2⟩ := e
    split at e2
    · rename_i hl
      cases e2
      obtain ⟨b, rfl, hb, ok⟩ := vz_keyT hk e1
      have lx : xs.length < LIM := by rw [h3.length]; exact hl
      refine ⟨_, .dT (putK xs j vv), h1, trivial, .inr ⟨xs, j, b, h1, rfl, hb, line_lt h2, rfl⟩, _, .of upd_same, ?_, (h3.put ok hv).tr (tr_upd hp h1 trivial)⟩
      have := length_putK xs j vv
      omega
    · cases e2
  | _ => cases hd
/-- x[k] = e, x an own thing -/
def sSetI (i : Nat) (me mk : ME) : MS := fun α => (me α).bind fun x => (rootAt x.2 i).bind fun _ => (mk x.2).bind fun y => (own y.2 x.1).bind fun v => (res y.2 y.1).bind fun k => (rootAt y.2 i).bind fun r => (setDa r.2 k v).bind fun c => some (.nx (y.2.set i (.r r.1 false c)))
theorem ref_setI {i : Nat} {te tk : TE} {me mk : ME} (he : RefE K te me) (hk : RefE K tk mk) : RefS K (tOrS (tAsg te (gSub (tVar i) tk rSetL)) (sDPut (tVar i) tk te)) (sSetI i me mk) := ⟨fun p H σ α A o D R e h => by
  simp only [sSetI, Option.bind_eq_some_iff] at e
  obtain ⟨⟨l, α1⟩, e1, ⟨f0, x0⟩, h0, ⟨lk, α2⟩, e2, v, e3, k, e4, ⟨f, x⟩, e5, c, e6, e7⟩ := e
  cases e7
  have dict : x.isDict = true → sDPut (tVar i) tk te D σ H := fun hd => by
    refine he.go p H σ α A l α1 _ R e1 fun p1 H1 A1 u R1 S1 q1 => ?_
    obtain ⟨a, hs, _, _⟩ := root_at R1 (rootAt_some h0)
    refine ⟨.ref a, hs, ?_⟩
    refine hk.go p1 H1 σ α1 A1 lk α2 _ R1 e2 fun p2 H2 A2 w R2 S2 q2 => ?_
    obtain ⟨b, hs1, ha1, t⟩ := root_at R2 (rootAt_some e5)
    rw [hs] at hs1
    cases hs1
    obtain ⟨o, o', w1, w2, w3, w4⟩ := put_top (R2.inp i a (by rw [ha1]; exact List.mem_cons_self ..)) t hd (res_vz R2 q2 e4) (own_dz R2 (q1.step R1 S2) e3) e6
    refine ⟨a, _, rfl, w3, ?_⟩
    have ⟨P, S⟩ := root_put R2 (rootAt_some e5) (join_of hs) w1 w2 ha1 w4
    exact h p2 _ σ _ P ((S1.trans R S2).trans R S)
  cases x with
  | list xs =>
    left
    simp only [setDa] at e6
    split at e6
    · rename_i j
      obtain ⟨n, e8, e9⟩ := Option.bind_eq_some_iff.mp e6
      cases e9
      refine he.go p H σ α A l α1 _ R e1 fun p1 H1 A1 u R1 S1 q1 => ?_
      obtain ⟨a, hs, _, _⟩ := root_at R1 (rootAt_some h0)
      refine ⟨.ref a, hs, ?_⟩
      refine hk.go p1 H1 σ α1 A1 lk α2 _ R1 e2 fun p2 H2 A2 w R2 S2 q2 => ?_
      obtain ⟨b, hs1, ha1, ws, w1, w2, w3⟩ := root_at R2 (rootAt_some e5)
      rw [hs] at hs1
      cases hs1
      cases vz_int (res_vz R2 q2 e4)
      refine ⟨a, ws, j, n, rfl, rfl, w1, by rw [w3.length]; exact e8, ?_⟩
      have hp := R2.inp i a (by rw [ha1]; exact List.mem_cons_self ..)
      have t : Tr p2 H2 p2 (L2.upd H2 a (.lst (ws.set n u))) := tr_upd hp w1 trivial
      have du := own_dz R2 (q1.step R1 S2) e3
      have ⟨P, S⟩ := root_put (x' := .list (xs.set n v)) (o' := .lst (ws.set n u)) R2 (rootAt_some e5) (join_of hs) w1 trivial ha1 ⟨_, upd_same, by rw [List.length_set]; exact w2, (w3.set n du).tr t⟩
      exact h p2 _ σ _ P ((S1.trans R S2).trans R S)
    · cases e6
  | dk kvs => exact .inr (dict rfl)
  | dt kvs => exact .inr (dict rfl)
  | _ => cases e6⟩
end
end Vm
namespace Vm
open PySem PySem.Spec PyProof.Rows L2 Gk
section
variable {K : PySem.W.Frag} {p p' p2 : List Addr} {H H' H2 : Hp} {σ σ' σ2 : L2.St} {α α' α2 α0 : AS} {A A' A2 : FT}
def mkD {κ τ : Type} [DecidableEq κ] (es : List (κ × τ)) : List (κ × τ) := es.foldl (fun acc kv => putD acc kv.1 kv.2) []
theorem mkD_snoc {κ τ : Type} [DecidableEq κ] (es : List (κ × τ)) (kv : κ × τ) : mkD (es ++ [kv]) = putD (mkD es) kv.1 kv.2 := by
  unfold mkD; rw [List.foldl_append]; rfl
def AccK (K : PySem.W.Frag) (p : List Addr) (H : Hp) (D : Addr) (done : List (Key × Da)) : Prop := ∃ kvs, H D = some (.dK kvs) ∧ kvs.length ≤ done.length ∧ DzK K p H kvs (mkD done)
theorem accK : AccOk (AccK K) := ⟨fun ⟨vs, h1, h3, h2⟩ t e => ⟨vs, by rw [e]; exact h1, h3, h2.tr t⟩, fun ⟨vs, h1, _⟩ => ⟨_, h1, trivial⟩⟩
def uDc (tk tv : TE) : L2.St → Hp → Addr → (Hp → Prop) → Prop := fun σ H D Nx => tk σ H fun y H4 => tv σ H4 fun z H5 => ∃ kvs k, y = kV k ∧ H5 D = some (.dK kvs) ∧ kvs.length < sizeLine ∧ Nx (upd H5 D (.dK (putK kvs k z)))
def mDc {κ : Type} (key : Da → Option κ) (mk mv : ME) : AS → Option (List (κ × Da) × AS) := fun α => (mk α).bind fun l => (mv l.2).bind fun r => (own r.2 l.1).bind fun x => (own r.2 r.1).bind fun y => (key x).bind fun k => some ([(k, y)], r.2)
theorem acc_stay {D : Addr} {o : HO} {p1 : List Addr} {H1 : Hp} {σ1 : L2.St} {α1 : AS} {A1 : FT} (R : Rel K p H σ α A) (S1 : Step p H σ α A p1 H1 σ1 α1 A1) (hDp : D ∈ p) (nD : ∀ i, D ∉ A i) (ho : H D = some o) (hnt : HO.isTbl o = false := by rfl) : H1 D = some o ∧ D ∈ p1 ∧ ∀ i, D ∉ A1 i := by
  refine ⟨(S1.keep D _ hnt ho nD).exp hDp, ?_, fun j z => ?_⟩
  · rcases S1.mono D hDp with z | ⟨k, z⟩
    · exact z
    · exact (nD k z).elim
  · rcases S1.new j D z with q | q
    · exact nD j q
    · rw [ho] at q; cases q
theorem ref_uDc {tk tv : TE} {mk mv : ME} (hk : RefE K tk mk) (hv : RefE K tv mv) : RefC K (AccK K) (uDc tk tv) (mDc keyD mk mv) :=
  ⟨fun p0 H0 σ0 α0 A0 p H σ α A D done ys α' Nx R0 S h0 R hDp nD acc e hl h => by
    simp only [mDc, Option.bind_eq_some_iff] at e
    obtain ⟨⟨l, α1⟩, e1, ⟨r, α2⟩, e2, x, e3, y, e4, k, e5, e6⟩ := e
    cases e6
    refine hk.go p H σ α A l α1 _ R e1 fun p1 H1 A1 v R1 S1 q1 => ?_
    refine hv.go p1 H1 σ α1 A1 r α2 _ R1 e2 fun p2 H2 A2 w R2 S2 q2 => ?_
    obtain ⟨vs, g1, g2, dz⟩ := acc
    have S12 := S1.trans R S2
    obtain ⟨hD1, hDp1, nD1⟩ := acc_stay R S12 hDp nD g1
    have lv : vs.length < LIM := by simp only [List.length_cons, List.length_nil] at hl; omega
    obtain ⟨rfl, ok⟩ := vz_key (.of (own_dz R2 (q1.step R1 S2) e3)) e5
    refine ⟨vs, k, rfl, hD1, line_lt (Nat.le_of_lt lv), h p2 _ A2 (rel_upd R2 hDp1 hD1 trivial nD1) ((S.trans R0 S12).upd h0) hDp1 nD1 ⟨_, upd_same, ?_, ?_⟩⟩
    · have := length_putK vs k w
      rw [List.length_append, List.length_singleton]
      omega
    · rw [mkD_snoc]
      exact ((dz.tr (S12.tr R)).put ok (own_dz R2 q2 e4)).tr (tr_upd hDp1 hD1 trivial)⟩
def fDc (m : AS → Option (List (Key × Da) × AS)) : MF := fun α => (m α).bind fun r => if r.1.length ≤ LIM then some (.r (.dk (mkD r.1)), r.2) else none
theorem ref_fDc {w : TI} {g : TG} {tt : TT} {u : L2.St → Hp → Addr → (Hp → Prop) → Prop} {vs : List Nat} {mi : MI} {mg : MG} {mt : MT} {mu : AS → Option (List (Key × Da) × AS)} (hi : RefI K w mi) (hg : RefB K g mg vs) (ht : RefT K tt mt) (hu : RefC K (AccK K) u mu) :
    RefF K (tCmp w g tt u vs (.dK [])) (fDc (cmI mi vs mg mt mu)) := ⟨fun p H σ α A r α' Q R e h => by
  simp only [fDc, Option.bind_eq_some_iff] at e
  obtain ⟨⟨ys, α1⟩, e1, e2⟩ := e
  split at e2
  · rename_i hl
    cases e2
    refine cmp_core accK (fun p H D => ⟨[], upd_same, Nat.le_refl _, .nil⟩) hi hg ht hu R e1 hl fun p1 H1 A1 a R1 S1 fr acc => ?_
    obtain ⟨vs, h1, h2, h3⟩ := acc
    exact h p1 H1 A1 a [] R1 S1 fr ⟨rfl, vs, .of h1, Nat.le_trans h2 hl, h3⟩
  · cases e2⟩
theorem paired_len {τ υ : Type} {R : τ → υ → Prop} : ∀ {xs : List τ} {ys : List υ}, Paired R xs ys → xs.length = ys.length
  | _, _, .nil => rfl
  | _, _, .cons _ t => congrArg (· + 1) (paired_len t)
end
end Vm
namespace Vm
open PySem PySem.Spec PyProof.Rows L2 Gk
section
variable {K : PySem.W.Frag} {p p' p2 : List Addr} {H H' H2 : Hp} {σ σ' σ2 : L2.St} {α α' α2 α0 : AS} {A A' A2 : FT}
def rSortD (K : PySem.W.Frag) : List V → Hp → VK → Prop := fun xs H Q => ∃ (a : Addr) (vs : List V) (ds : List PyData), xs = [V.ref a] ∧ SqL K H a vs ∧ DpAll K H vs ds ∧ PySem.W.AllAlike ds ∧ PySem.W.Sortable ds ∧ (∀ d ∈ ds, d.depth ≤ 64) ∧
  ∀ q, H q = none → Q (.ref q) (upd H q (.lst (((vs.zip ds).mergeSort (PySem.W.dataLe false (·.2))).map (·.1))))
theorem DpAll.length : ∀ {vs : List V} {ds : List PyData}, DpAll K H vs ds → vs.length = ds.length
  | _, _, .nil => rfl
  | _, _, .cons _ t => congrArg (· + 1) (DpAll.length t)
theorem zip_snd {τ υ : Type} : ∀ {xs : List τ} {ys : List υ}, xs.length = ys.length → (xs.zip ys).map (·.2) = ys
  | [], [], _ => rfl
  | x :: xs, y :: ys, h => by rw [List.zip_cons_cons, List.map_cons, zip_snd (by simpa using h)]
  | [], _ :: _, h => by cases h
  | _ :: _, [], h => by cases h
theorem each_of {R : Value → V × PyData → Prop} : ∀ {vs : List V} {us : List Value} {ds : List PyData}, Vals vs us → vs.length = ds.length → (∀ (i : Nat) (v : V) (u : Value) (d : PyData), vs[i]? = some v → us[i]? = some u → ds[i]? = some d → RelV v u → R u (v, d)) → PySem.W.EachIs R us (vs.zip ds)
  | [], [], [], .nil, _, _ => .nil
  | v :: vs, u :: us, d :: ds, .cons r t, hl, h => .cons (h 0 v u d rfl rfl rfl r) (each_of t (by simpa using hl) fun i v u d h1 h2 h3 => h (i + 1) v u d (by simpa using h1) (by simpa using h2) (by simpa using h3))
  | _ :: _, _ :: _, [], _, hl, _ => by cases hl
theorem cr_sortD {X : Cx} (hK : X.K = K) (hu : X.A.units + 70 < cLine) : CallR X (.builtin "sorted") (rSortD K) := by
  subst hK
  intro pins s σ H xs us Q I r h
  obtain ⟨a, vs, ds, rfl, hs, hd, al, so, dep, q⟩ := h
  obtain ⟨its, rv, hl, hz⟩ := I.list hs
  rw [Vals.ref1 r]
  have hlen := DpAll.length hd
  have e : PySem.W.EachIs (fun u (b : V × PyData) => RelV b.1 u) its (vs.zip ds) := each_of rv hlen fun i v u d _ _ _ hr => hr
  obtain ⟨as, ra⟩ := Dp.readsAll I ds vs its hd rv
  have er : PySem.W.EachIs (fun u (b : V × PyData) => ∃ as, Reads s.heap u b.2 as) its (vs.zip ds) := by
    have ra' : ReadsAll s.heap its ((vs.zip ds).map (·.2)) as := by rw [zip_snd hlen]; exact ra
    exact PySem.W.readsAll_each (fun b : V × PyData => b.2) ra'
  have em : (vs.zip ds).map (·.2) = ds := zip_snd hlen
  refine PySem.W.sorted_data (enc := fun b : V × PyData => b.2) hl.isList e er (by rw [em]; exact al) (by rw [em]; exact so) (by rw [List.length_zip]; omega) (fun b hb => ?_) fun out ol eo => ?_
  · have : b.2 ∈ ds := by rw [← em]; exact List.mem_map_of_mem hb
    have := dep _ this
    omega
  · have rv' : Vals (((vs.zip ds).mergeSort (PySem.W.dataLe false (·.2))).map (·.1)) out := by
      have gen : ∀ {us : List Value} {bs : List (V × PyData)}, PySem.W.EachIs (fun u (b : V × PyData) => RelV b.1 u) us bs → Vals (bs.map (·.1)) us := fun {us bs} h => by
        induction h with
        | nil => exact .nil
        | cons h _ ih => exact .cons h ih
      exact gen eo
    obtain ⟨ep, he'⟩ := PyProof.Rows.sortedAll_at s.heap its out.toArray
    have hlen' : (((vs.zip ds).mergeSort (PySem.W.dataLe false (·.2))).map (·.1)).length ≤ sizeLine := by
      rw [List.length_map, List.length_mergeSort, List.length_zip]; omega
    exact ⟨.ref _, upd H (s.heap.objs.size + 1) (.lst _), I.laid (t' := s.toks) (fun _ _ => PyProof.Rows.sortedAll_old) (Nat.le_succ _) ⟨hlen', out, ep, rv', he'⟩, rfl, q _ (I.hok.fresh (Nat.le_succ _))⟩
open Classical in
/-- the data sorted as Python does; none where they can't be told apart -/
noncomputable def sortD (xs : List Da) : Option (List Da) := (toPys xs).bind fun ds => if PySem.W.AllAlike ds ∧ PySem.W.Sortable ds ∧ (∀ d ∈ ds, d.depth ≤ 64) then some (((xs.zip ds).mergeSort (PySem.W.dataLe false (·.2))).map (·.1)) else none
theorem toPys_len : ∀ {xs : List Da} {ds : List PyData}, toPys xs = some ds → ds.length = xs.length
  | [], _, e => by cases e; rfl
  | x :: xs, _, e => by
    simp only [toPys, Option.bind_eq_some_iff] at e
    obtain ⟨d, _, ds, e2, e3⟩ := e
    cases e3
    exact congrArg (· + 1) (toPys_len e2)
theorem merge_map {τ υ : Type} (f : τ → υ) (le : υ → υ → Bool) (l : List τ) : (l.map f).mergeSort le = (l.mergeSort fun a b => le (f a) (f b)).map f :=
  (List.map_mergeSort (f := f) (r := fun a b => le (f a) (f b)) (s := le) (fun _ _ _ _ => rfl)).symm
theorem DzA.get2 : ∀ {vs : List V} {xs : List Da}, DzA K p H vs xs → ∀ vx ∈ vs.zip xs, Dz K p H vx.1 vx.2
  | _, _, .nil, _, m => by cases m
  | _, _, .cons h t, vx, m => by
    rw [List.zip_cons_cons] at m
    rcases List.mem_cons.mp m with rfl | m
    · exact h
    · exact DzA.get2 t vx m
theorem dzA_of : ∀ {l : List (V × Da)}, (∀ vx ∈ l, Dz K p H vx.1 vx.2) → DzA K p H (l.map (·.1)) (l.map (·.2))
  | [], _ => .nil
  | vx :: l, h => .cons (h vx (List.mem_cons_self ..)) (dzA_of fun y m => h y (List.mem_cons_of_mem _ m))
theorem sort_dz {vs : List V} {xs : List Da} {ds : List PyData} (h : DzA K p H vs xs) (hl : ds.length = xs.length) :
    DzA K p H (((vs.zip ds).mergeSort (PySem.W.dataLe false (·.2))).map (·.1)) (((xs.zip ds).mergeSort (PySem.W.dataLe false (·.2))).map (·.1)) := by
  have hv := h.length
  have e1 : vs.zip ds = ((vs.zip xs).zip ds).map fun t => (t.1.1, t.2) := by
    apply List.ext_getElem?
    intro i
    simp only [List.getElem?_map, List.getElem?_zip_eq_some, List.zip, List.getElem?_zipWith]
    rcases Nat.lt_or_ge i ds.length with hi | hi
    · have h1 : i < vs.length := by omega
      have h2 : i < xs.length := by omega
      simp [h1, h2, hi]
    · have h1 : vs.length ≤ i := by omega
      have h2 : xs.length ≤ i := by omega
      simp [h1, h2, hi]
  have e2 : xs.zip ds = ((vs.zip xs).zip ds).map fun t => (t.1.2, t.2) := by
    apply List.ext_getElem?
    intro i
    simp only [List.getElem?_map, List.getElem?_zip_eq_some, List.zip, List.getElem?_zipWith]
    rcases Nat.lt_or_ge i ds.length with hi | hi
    · have h1 : i < vs.length := by omega
      have h2 : i < xs.length := by omega
      simp [h1, h2, hi]
    · have h1 : vs.length ≤ i := by omega
      have h2 : xs.length ≤ i := by omega
      simp [h1, h2, hi]
  rw [e1, e2, merge_map, merge_map, List.map_map, List.map_map]
  have key := dzA_of (K := K) (p := p) (H := H) (l := (((vs.zip xs).zip ds).mergeSort fun a b => PySem.W.dataLe false (fun t : (V × Da) × PyData => t.2) a b).map (·.1)) fun vx m => by
    obtain ⟨t, m1, rfl⟩ := List.mem_map.mp m
    have m2 := List.mem_mergeSort.mp m1
    exact h.get2 _ (List.of_mem_zip m2).1
  rw [List.map_map, List.map_map] at key
  exact key
noncomputable def fSortM (ma : MA) : MF := fun α => (ma α).bind fun x => (resA x.2 x.1).bind fun a => match a with
  | [.list xs] => (sortD xs).bind fun ys => some (.r (.list ys), x.2)
  | _ => none
theorem ref_fSort {ta : TA} {ma : MA} (ha : RefA K ta ma) : RefF K (tCB (rSortD K) ta) (fSortM ma) := ⟨fun p H σ α A r α' Q R e h => by
  simp only [fSortM, Option.bind_eq_some_iff] at e
  obtain ⟨⟨ls, α1⟩, e1, a, e2, e3⟩ := e
  split at e3
  · rename_i xs
    simp only [Option.bind_eq_some_iff] at e3
    obtain ⟨ys, e4, e5⟩ := e3
    cases e5
    simp only [sortD, Option.bind_eq_some_iff] at e4
    obtain ⟨ds, e6, e7⟩ := e4
    split at e7
    · rename_i hc
      cases e7
      refine ha.go p H σ α A ls _ _ R e1 fun p1 H1 A1 vs R1 S1 q1 => ?_
      obtain ⟨v, rfl, hv⟩ := vz1 (resA_vz R1 q1 e2)
      obtain ⟨ad, us, rfl, h1, h2, h3⟩ := vz_lst hv
      refine ⟨ad, us, ds, rfl, .of h1, dzA_dp h3 e6, hc.1, hc.2.1, hc.2.2, fun q hq => ?_⟩
      obtain ⟨R2, S2, nr⟩ := rel_new (o := .lst (((us.zip ds).mergeSort (PySem.W.dataLe false (·.2))).map (·.1))) R1 hq
      refine h _ _ A1 q [] R2 (S1.trans R S2) (fresh_one (List.mem_cons_self ..) (S1.dom q hq) nr) ⟨rfl, _, upd_same, ?_, (sort_dz h3 (toPys_len e6)).tr (tr_new hq (same_new hq))⟩
      rw [List.length_map, List.length_mergeSort, List.length_zip]
      omega
    · cases e7
  · cases e3⟩
end
end Vm
namespace Vm
open PySem PySem.Spec PyProof.Rows L2 Gk
section
variable {K : PySem.W.Frag} {p p' p2 : List Addr} {H H' H2 : Hp} {σ σ' σ2 : L2.St} {α α' α2 α0 : AS} {A A' A2 : FT}
theorem sc_sq {i : Nat} {ns : List Int} (R : Rel K p H σ α A) (h : α[i]? = some (.sc ns)) : ∃ a, σ[i]? = some (some (.ref a)) ∧ SqL K H a (ns.map V.int) := by
  obtain ⟨v, hv⟩ := R.has h (by intro z; cases z)
  obtain ⟨_, a, e, q⟩ := R.sl i _ h
  rw [join_of hv] at e
  cases e
  exact ⟨a, hv, q.elim (fun z => .inl z.2) .inr⟩
def rLenL (K : PySem.W.Frag) : List V → Hp → VK → Prop := fun xs H Q => ∃ a ys, xs = [.ref a] ∧ SqL K H a ys ∧ Q (.int ((ys.length : Nat) : Int)) H
theorem len_L {X : Cx} (hK : X.K = K) : CallR X (.builtin "len") (rLenL K) := by
  subst hK
  intro pins s σ H xs us Q I r h
  obtain ⟨a, ys, rfl, hs, q⟩ := h
  exact call_len pins s σ H _ us Q I r ⟨.ref a, ys.length, rfl, .inl ⟨ys, hs, rfl⟩, q⟩
def eScLen (i : Nat) : ME := fun α => match α[i]? with
  | some (.sc ns) => some (.d (.int ((ns.length : Nat) : Int)), α)
  | _ => none
theorem ref_scLen {i : Nat} : RefE K (tCB (rLenL K) (tCons (tVar i) tNil)) (eScLen i) := ⟨fun p H σ α A l α' Q R e h => by
  unfold eScLen at e
  split at e
  · rename_i ns hi
    cases e
    obtain ⟨a, hs, sq⟩ := sc_sq R hi
    refine ⟨.ref a, hs, a, _, rfl, sq, ?_⟩
    rw [List.length_map]
    exact h p H A _ R .refl (.int _)
  · cases e⟩
theorem ix_L {X : Cx} (hK : X.K = K) : IxR X (rIxL K) := by subst hK; exact ix_list
def eScIx (i : Nat) (mk : ME) : ME := fun α => match α[i]? with
  | some (.sc _) => (mk α).bind fun y => match y.2[i]? with
    | some (.sc ns) => (res y.2 y.1).bind fun k => match k with
      | .int j => (atI ns j).bind fun n => some (.d (.int n), y.2)
      | _ => none
    | _ => none
  | _ => none
theorem atI_map {ns : List Int} {j n : Int} (h : atI ns j = some n) : atI (ns.map V.int) j = some (.int n) := by
  unfold atI at h ⊢
  rw [List.length_map]
  obtain ⟨k, e1, e2⟩ := Option.bind_eq_some_iff.mp h
  rw [e1, Option.bind_some, List.getElem?_map, e2]
  rfl
theorem ref_scIx {i : Nat} {tk : TE} {mk : ME} (hk : RefE K tk mk) : RefE K (tOp (rIxL K) (tVar i) tk) (eScIx i mk) := ⟨fun p H σ α A l α' Q R e h => by
  unfold eScIx at e
  split at e
  · rename_i ns0 hi0
    obtain ⟨a, hs, _⟩ := sc_sq R hi0
    simp only [Option.bind_eq_some_iff] at e
    obtain ⟨⟨ly, α1⟩, e1, e2⟩ := e
    split at e2
    · rename_i ns hi
      simp only [Option.bind_eq_some_iff] at e2
      obtain ⟨k, e3, e4⟩ := e2
      split at e4
      · rename_i j
        obtain ⟨n, e5, e6⟩ := Option.bind_eq_some_iff.mp e4
        cases e6
        refine ⟨.ref a, hs, ?_⟩
        refine hk.go p H σ α A ly _ _ R e1 fun p1 H1 A1 v R1 S1 q => ?_
        obtain ⟨b, hs1, sq⟩ := sc_sq R1 hi
        rw [hs] at hs1
        cases hs1
        cases vz_int (res_vz R1 q e3)
        exact ⟨a, _, j, _, rfl, rfl, sq, atI_map e5, h p1 H1 A1 _ R1 S1 (.int _)⟩
      · cases e4
    · cases e2
  · cases e⟩
noncomputable def bigN : Int := big_worth.choose
theorem bigN_pos : 0 < bigN := big_worth.choose_spec.1
def rBig : List V → Hp → VK → Prop := fun xs H Q => xs = [.str bigS] ∧ Q (.int bigN) H
theorem cr_big {X : Cx} (hd : PySem.W.nsIn X.K cStatics "sys.int_max_str_digits" = some none) : CallR X (.type "int") rBig := by
  intro pins s σ H xs us Q I r h
  obtain ⟨rfl, q⟩ := h
  obtain ⟨u, rfl, t, rfl⟩ := vals1 r
  exact call_big big_worth.choose_spec.2 (noDigits_of I.kIn I.nolimit hd) ⟨.int bigN, H, I.tok _, ⟨_, rfl⟩, q⟩
noncomputable def eBig : ME := fun α => some (.d (.int bigN), α)
theorem ref_lc {w : TI} {g : TG} {tt : TT} {te : TE} {vs : List Nat} {mi : MI} {mg : MG} {mt : MT} {me : ME} (hi : RefI K w mi) (hg : RefB K g mg vs) (ht : RefT K tt mt) (he : RefE K te me) :
    RefF K (tLc w g tt te vs) (fLc (cmI mi vs mg mt (mLc me))) := ref_fLc hi hg ht (ref_uLc he)
theorem ref_lc2 {w : TI} {g : TG} {tt : TT} {w1 : TI} {g1 : TG} {tt1 : TT} {te : TE} {vs vs1 : List Nat} {mi : MI} {mg : MG} {mt : MT} {mi1 : MI} {mg1 : MG} {mt1 : MT} {me : ME} (hi : RefI K w mi) (hg : RefB K g mg vs) (ht : RefT K tt mt) (hi1 : RefI K w1 mi1) (hg1 : RefB K g1 mg1 vs1) (ht1 : RefT K tt1 mt1) (he : RefE K te me) :
    RefF K (tLc2 w g tt w1 g1 tt1 te vs vs1) (fLc (cmI mi vs mg mt (cmI mi1 vs1 mg1 mt1 (mLc me)))) := ref_fLc hi hg ht (ref_in accL hi1 hg1 ht1 (ref_uLc he))
theorem ref_dc {w : TI} {g : TG} {tt : TT} {tk tv : TE} {vs : List Nat} {mi : MI} {mg : MG} {mt : MT} {mk mv : ME} (hi : RefI K w mi) (hg : RefB K g mg vs) (ht : RefT K tt mt) (hk : RefE K tk mk) (hv : RefE K tv mv) :
    RefF K (tDc w g tt tk tv vs) (fDc (cmI mi vs mg mt (mDc keyD mk mv))) := ref_fDc hi hg ht (ref_uDc hk hv)
def tOrT (t u : TT) : TT := fun σ H Q => t σ H Q ∨ u σ H Q
theorem pt_orT {X : Cx} {e : Expr} {t u : TT} (a : PT X e t) (b : PT X e u) : PT X e (tOrT t u) := ⟨fun pins s σ H Q I h => h.elim (a.run pins s σ H Q I) (b.run pins s σ H Q I)⟩
theorem ref_testOr {t u : TE} {m : ME} (h : RefE K (tOrE t u) m) : RefT K (tOrT (tB t) (tB u)) (tOfE m) := ⟨fun p H σ α A b α' Q R e q => (ref_tB h).go p H σ α A b α' Q R e q⟩
end
end Vm
namespace Vm
open PySem PySem.Spec PyProof.Rows L2 Gk
theorem hu64_of {k : Nat} {A : Around} (h : Room k A) : A.units + 64 < cLine := by have := h.un; omega
theorem hu70_of {k : Nat} {A : Around} (h : Room k A) : A.units + 70 < cLine := by have := h.un; omega
theorem hu65_of {k : Nat} {A : Around} (h : Room k A) : A.units + 65 < cLine := by have := h.un; omega
section
variable {K : PySem.W.Frag} {p p' p2 : List Addr} {H H' H2 : Hp} {σ σ' σ2 : L2.St} {α α' α2 α0 : AS} {A A' A2 : FT}
theorem ref_big {ta : TA} (h : ∀ σ H Q, Q [V.str bigS] H → ta σ H Q) : RefE K (tCB rBig ta) eBig := ⟨fun p H σ α A l α' Q R e q => by
  cases e
  exact h σ H _ ⟨rfl, q p H A _ R .refl (.int _)⟩⟩
def tLkA (td : TE) : TE := fun σ H Q => td σ H fun x H1 => (∃ d u, x = .ref d ∧ H1 d = some u ∧ Mut (some u) ∧ ∀ od, Q x (upd H1 d (.frz od u))) ∨ Q x H1
theorem pe_lkA {X : Cx} {e : Expr} {td : TE} (he : PE X e td) : PE X e (tLkA td) := ⟨fun pins s σ H Q I h => by
  refine thn (he.run pins s σ H _ I h) fun u s1 ⟨x, H1, I1, rx, q⟩ => ?_
  rcases q with ⟨d, o, rfl, hd, mu, q⟩ | q
  · obtain ⟨od, I2⟩ := I1.lock hd mu
    exact ⟨_, _, I2, rx, q od⟩
  · exact ⟨x, H1, I1, rx, q⟩⟩
theorem dict_na {o u : HO} (hi : HO.isDict o = true) (e : o = u) : HO.isTbl u = false ∧ ∀ φ, u ≠ .ext φ := by
  subst e
  cases o with
  | dK _ => exact ⟨rfl, fun φ z => by cases z⟩
  | dT _ => exact ⟨rfl, fun φ z => by cases z⟩
  | _ => exact (Bool.false_ne_true hi).elim
theorem rel_lockD {d : Addr} {o : HO} {od : Obj} (R : Rel K p H σ α A) (hd : d ∉ p) (ho : H d = some o) (hi : HO.isDict o = true) :
    Rel K p (L2.upd H d (.frz od o)) σ α A ∧ Step p H σ α A p (L2.upd H d (.frz od o)) σ α A ∧ Tr p H p (L2.upd H d (.frz od o)) := by
  have nd : ∀ b u, HO.isDict u = false → H b = some u → b ≠ d := fun b u n e z => by subst z; rw [ho] at e; cases e; rw [n] at hi; cases hi
  have t : Tr p H p (L2.upd H d (.frz od o)) := by
    refine ⟨fun b u _ n r => ⟨?_, n⟩, fun b xs n r => ?_, fun b xs r => ?_, fun b o' u n r => ?_⟩
    · rcases r with r | ⟨o', r⟩
      · by_cases z : b = d
        · subst z; rw [ho] at r; cases r; exact .inr ⟨od, upd_same⟩
        · exact .inl (by rw [upd_ne z]; exact r)
      · exact .inr ⟨o', by rw [upd_ne (nd b _ rfl r)]; exact r⟩
    · rw [upd_ne (nd b _ rfl r)]; exact r
    · rw [upd_ne (nd b _ rfl r)]; exact r
    · rw [upd_ne (nd b _ rfl r)]; exact r
  refine ⟨⟨R.len, fun i r e => (R.sl i r e).tr t fun c m u hu => ?_, R.out, R.nd, R.dj, R.inp, fun b m z => ?_, R.tb.put (fun b u ne e => by rw [upd_ne ne]; exact e) (fun u e => dict_na hi (Option.some.inj (ho.symm.trans e))) fun b m => .inl m⟩, ⟨fun b u _ e n => ?_, fun b e => ?_, fun i b m => .inl m, fun b m => .inl m, fun b m => .inl m, rfl, fun i r e f => ⟨rfl, r, e, .refl⟩, fun i r e f => ⟨r, e, f⟩⟩, t⟩
  · rw [upd_ne (fun z => by subst z; exact hd (R.inp i c m))]; exact hu
  · by_cases y : b = d
    · subst y; exact hd m
    · rw [upd_ne y] at z; exact R.al b m z
  · by_cases z : b = d
    · subst z; rw [ho] at e; cases e; exact .inr ⟨hd, hi, od, upd_same⟩
    · exact .inl (by rw [upd_ne z]; exact e)
  · by_cases z : b = d
    · subst z; rw [upd_same] at e; cases e
    · rw [upd_ne z] at e; exact e
def kD : Key → Da
  | .inl i => .int i
  | .inr s => .str s
theorem key_dz {k : Key} (h : KeyOk k) : Dz K p H (kV k) (kD k) := by
  cases k with
  | inl i => exact .int i
  | inr s => exact .str s h
theorem keys_dz : ∀ {ks : List Key}, (∀ x ∈ ks, KeyOk x) → DzA K p H (ks.map kV) (ks.map kD)
  | [], _ => .nil
  | k :: ks, h => .cons (key_dz (h k (List.mem_cons_self ..))) (keys_dz fun x m => h x (List.mem_cons_of_mem _ m))
theorem DzK.at : ∀ {xs : List (Key × V)} {ds : List (Key × Da)}, DzK K p H xs ds → ∀ {i : Nat} {k : Key} {v : V}, xs[i]? = some (k, v) → ∃ d, ds[i]? = some (k, d) ∧ KeyOk k ∧ Dz K p H v d
  | _, _, .nil, i, k, v, e => by simp at e
  | _, _, .cons h d t, 0, k, v, e => by cases e; exact ⟨_, rfl, h, d⟩
  | _, _, .cons h d t, i + 1, k, v, e => by
    obtain ⟨d, h1, h2⟩ := DzK.at t (i := i) (by simpa using e)
    exact ⟨d, by simpa using h1, h2⟩
theorem DzT.at : ∀ {xs : List (List Key × V)} {ds : List (List Key × Da)}, DzT K p H xs ds → ∀ {i : Nat} {k : List Key} {v : V}, xs[i]? = some (k, v) → ∃ d, ds[i]? = some (k, d) ∧ ((∀ x ∈ k, KeyOk x) ∧ k.length ≤ LIM) ∧ Dz K p H v d
  | _, _, .nil, i, k, v, e => by simp at e
  | _, _, .cons h d t, 0, k, v, e => by cases e; exact ⟨_, rfl, h, d⟩
  | _, _, .cons h d t, i + 1, k, v, e => by
    obtain ⟨d, h1, h2⟩ := DzT.at t (i := i) (by simpa using e)
    exact ⟨d, by simpa using h1, h2⟩
/-- the keys of a dict as data -/
def keysOf : Da → Option (List Da)
  | .dk kvs => some (kvs.map fun kv => kD kv.1)
  | .dt kvs => some (kvs.map fun kv => .tuple (kv.1.map kD))
  | _ => none
def iKey (ma : ME) : MI := fun α => (ma α).bind fun l => (own l.2 l.1).bind fun x => (keysOf x).bind fun ks => some ((ks, []), l.2)
theorem itk_ok {d : Addr} {od : Obj} {kvs : List (Key × V)} {ds : List (Key × Da)} (hd : d ∉ p) (ho : H d = some (.frz od (.dK kvs))) (dz : DzK K p H kvs ds) : ItR K p H σ α (Itk d od kvs) (ds.map fun kv => kD kv.1) [] := ⟨fun p1 H1 σ1 α1 A1 R1 t _ => by
  have h1 := t.fz d od _ hd ho
  refine ⟨fun n x hx => ?_, h1, by rw [List.length_map, ← dz.length]; exact Nat.le_refl _⟩
  have hn : n < kvs.length := by have := getElem?_lt hx; rw [List.length_map, ← dz.length] at this; exact this
  refine ⟨⟨h1, hn⟩, fun v H2 z => ?_⟩
  obtain ⟨rfl, k, w, e1, rfl⟩ := z
  obtain ⟨d', e2, ok, _⟩ := dz.at e1
  rw [List.getElem?_map, e2] at hx
  cases hx
  exact ⟨Same.refl _, key_dz ok⟩⟩
theorem itkt_ok {d : Addr} {od : Obj} {kvs : List (List Key × V)} {ds : List (List Key × Da)} (hd : d ∉ p) (ho : H d = some (.frz od (.dT kvs))) (dz : DzT K p H kvs ds) : ItR K p H σ α (Itkt d od kvs) (ds.map fun kv => .tuple (kv.1.map kD)) [] := ⟨fun p1 H1 σ1 α1 A1 R1 t _ => by
  have h1 := t.fz d od _ hd ho
  refine ⟨fun n x hx => ?_, h1, by rw [List.length_map, ← dz.length]; exact Nat.le_refl _⟩
  have hn : n < kvs.length := by have := getElem?_lt hx; rw [List.length_map, ← dz.length] at this; exact this
  refine ⟨⟨h1, hn⟩, fun v H2 z => ?_⟩
  obtain ⟨rfl, k, w, q, e1, rfl, hq⟩ := z
  obtain ⟨d', e2, ok, _⟩ := dz.at e1
  rw [List.getElem?_map, e2] at hx
  cases hx
  exact ⟨Same.refl _, .tup hq (by rw [List.length_map]; exact ok.2) (keys_dz ok.1)⟩⟩
theorem ref_iKeys {td : TE} {ma : ME} (ha : RefE K td ma) : RefI K (iKeys (tLkA td)) (iKey ma) := ⟨fun p H σ α A x α' Rr R e h => by
  simp only [iKey, Option.bind_eq_some_iff] at e
  obtain ⟨⟨l, α1⟩, e1, y, e2, ks, e3, e4⟩ := e
  cases e4
  refine ha.go p H σ α A l α1 _ R e1 fun p1 H1 A1 v R1 S1 q1 => ?_
  have dz := own_dz R1 q1 e2
  cases dz with
  | dk n r hl ds =>
    cases e3
    rcases r with r | ⟨od, r⟩
    · left
      refine ⟨_, _, rfl, r, trivial, fun od => ⟨_, od, rfl, .inl ⟨_, upd_same, ?_⟩⟩⟩
      obtain ⟨R2, S2, t⟩ := rel_lockD (od := od) R1 n r rfl
      exact h p1 _ A1 _ R2 (S1.trans R S2) (itk_ok n upd_same (ds.tr t)) lockable_nil
    · right
      exact ⟨_, od, rfl, .inl ⟨_, r, h p1 H1 A1 _ R1 S1 (itk_ok n r ds) lockable_nil⟩⟩
  | dt n r hl ds =>
    cases e3
    rcases r with r | ⟨od, r⟩
    · left
      refine ⟨_, _, rfl, r, trivial, fun od => ⟨_, od, rfl, .inr ⟨_, upd_same, ?_⟩⟩⟩
      obtain ⟨R2, S2, t⟩ := rel_lockD (od := od) R1 n r rfl
      exact h p1 _ A1 _ R2 (S1.trans R S2) (itkt_ok n upd_same (ds.tr t)) lockable_nil
    · right
      exact ⟨_, od, rfl, .inr ⟨_, r, h p1 H1 A1 _ R1 S1 (itkt_ok n r ds) lockable_nil⟩⟩
  | _ => cases e3⟩
/-- a text, sign by sign -/
def iSgn (ma : ME) : MI := fun α => (ma α).bind fun l => (own l.2 l.1).bind fun x => match x with
  | .str z => some ((signsD z, []), l.2)
  | _ => none
theorem its_ok {z : Str} : ItR K p H σ α (Its z) (signsD z) [] := ⟨fun p1 H1 σ1 α1 A1 R1 t _ => by
  refine ⟨fun n x hx => ?_, by simp [Its, signsD]⟩
  unfold signsD at hx
  rw [List.getElem?_map] at hx
  obtain ⟨c, hc, rfl⟩ := Option.map_eq_some_iff.mp hx
  have hn := getElem?_lt hc
  rw [Array.length_toList] at hn
  refine ⟨hn, fun v H2 y => ?_⟩
  obtain ⟨rfl, c', e1, rfl⟩ := y
  rw [Array.getElem?_toList, e1] at hc
  cases hc
  exact ⟨Same.refl _, .str _ (by show 1 ≤ SLIM; decide)⟩⟩
theorem ref_iSgn {td : TE} {ma : ME} (ha : RefE K td ma) : RefI K (iStr td) (iSgn ma) := ⟨fun p H σ α A x α' Rr R e h => by
  simp only [iSgn, Option.bind_eq_some_iff] at e
  obtain ⟨⟨l, α1⟩, e1, y, e2, e3⟩ := e
  split at e3
  · rename_i z
    cases e3
    refine ha.go p H σ α A l _ _ R e1 fun p1 H1 A1 v R1 S1 q1 => ?_
    obtain ⟨rfl, _⟩ := vz_str (.of (own_dz R1 q1 e2))
    exact ⟨z, rfl, h p1 H1 A1 _ R1 S1 its_ok lockable_nil⟩
  · cases e3⟩
/-- whatever is walked -/
def iAny (ma : ME) : MI := fun α => (iLst ma α).or ((iTpl ma α).or ((iKey ma α).or (iSgn ma α)))
def iA (K : PySem.W.Frag) (t : TE) : TI := iOr (iList K t) (iOr (iTup K t) (iOr (iKeys (tLkA t)) (iStr t)))
theorem pi_any {X : Cx} {tg e : Expr} {t : TE} (hK : X.K = K) (he : PE X e t) : PI X tg e (iA K t) := by
  subst hK
  exact pi_or (pi_list he) (pi_or (pi_tup he) (pi_or (pi_keys (pe_lkA he)) (pi_str he)))
theorem ref_iAny {t : TE} {ma : ME} (ha : RefE K t ma) : RefI K (iA K t) (iAny ma) := ⟨fun p H σ α A x α' Rr R e h => by
  unfold iAny at e
  cases e1 : iLst ma α with
  | some y => rw [e1] at e; cases e; exact .inl ((ref_iList ha).go p H σ α A x α' Rr R e1 h)
  | none =>
    rw [e1, Option.none_or] at e
    cases e2 : iTpl ma α with
    | some y => rw [e2] at e; cases e; exact .inr (.inl ((ref_iTup ha).go p H σ α A x α' Rr R e2 h))
    | none =>
      rw [e2, Option.none_or] at e
      cases e3 : iKey ma α with
      | some y => rw [e3] at e; cases e; exact .inr (.inr (.inl ((ref_iKeys ha).go p H σ α A x α' Rr R e3 h)))
      | none =>
        rw [e3, Option.none_or] at e
        exact .inr (.inr (.inr ((ref_iSgn ha).go p H σ α A x α' Rr R e h)))⟩
def rLtD (K : PySem.W.Frag) : R2 := fun x y H Q => ∃ d e, Dp K H x d ∧ Dp K H y e ∧ PySem.W.alike d e = true ∧ d ≠ .none ∧ d.depth ≤ 64 ∧ Q (.bl (PySem.W.dataLt d e)) H
theorem op_ltD {X : Cx} (hK : X.K = K) (hu : X.A.units + 70 < cLine) : OpR X (compareOp .Lt) (rLtD K) := by
  subst hK
  intro pins s σ H x y v u Q I rx ry h
  obtain ⟨d, e, hd, he, al, nn, dp, q⟩ := h
  obtain ⟨as, r1⟩ := Dp.reads I d x v hd rx
  obtain ⟨bs, r2⟩ := Dp.reads I e y u he ry
  refine PySem.W.lt_data r1 r2 al nn ?_ ⟨.bl _, H, I, rfl, q⟩
  have : min d.depth e.depth ≤ d.depth := Nat.min_le_left _ _
  omega
def rLtA (K : PySem.W.Frag) : R2 := rOr (rI0 fun i j => .bl (decide (i < j))) (rLtD K)
theorem op_ltA {X : Cx} (hK : X.K = K) (hu : X.A.units + 70 < cLine) : OpR X (compareOp .Lt) (rLtA K) := opr_or op_lt (op_ltD hK hu)
def fLtA : Da → Da → Option Da
  | .int i, .int j => some (.bool (decide (i < j)))
  | a, b => (toPy a).bind fun d => (toPy b).bind fun e => match d with
    | .none => none
    | d => if PySem.W.alike d e = true ∧ d.depth ≤ 64 then some (.bool (PySem.W.dataLt d e)) else none
theorem rr_ltA : RefR2 K (rLtA K) fLtA := fun p H x y a b c Q al va vb e q => by
  unfold fLtA at e
  split at e
  · cases e
    cases vz_int va
    cases vz_int vb
    exact .inl ⟨_, _, rfl, rfl, q _ H (Same.refl H) (.bl _)⟩
  · simp only [Option.bind_eq_some_iff] at e
    obtain ⟨d, e1, f, e2, e3⟩ := e
    split at e3
    · cases e3
    · rename_i nn
      split at e3
      · rename_i hc
        cases e3
        exact .inr ⟨d, f, vz_dp va e1, vz_dp vb e2, hc.1, nn, hc.2, q _ H (Same.refl H) (.bl _)⟩
      · cases e3
end
end Vm
namespace Gk
open PySem PySem.Spec PyProof.Rows L2
end Gk
namespace Gk
open PySem PySem.Spec PyProof.Rows L2
end Gk
namespace Vm
open PySem PySem.Spec PyProof.Rows L2 Gk
section
variable {P : Program} {w : World} {K : PySem.W.Frag} {mg : Str → Option Value} {base : Heap}
theorem okGN {x qual : Str} {params : Arguments} {body : List Stmt} {scope : Scope} {dvs : List V} {kws : List (Str × V)}
    {f : Addr} {fd : FuncData} {N ps : List Str} {k : Nat} {sp : Sp}
    (F : FunD K x qual params body scope dvs kws f fd) (S : FnScope N ps scope)
    (ar : ∀ vs H Q E, sp vs H Q E → vs.length = ps.length)
    (hb : ∀ (cdv : Value) (A : Around) (outer : List Env) (s : Shared) (H : Hp) (vs : List V) (Q : VK) (E : XK),
      A.guards = some [] → Room k (A.deeper (envOfC qual scope s.heap.objs.size f cdv)) → sp vs H Q E →
      ∃ t, PSs (cxOf CX0 P w K mg base N qual scope f cdv A outer s H E).nox body t ∧
        t { nx := fun _ H' => Q .non H', rt := Q } (start N vs) H) :
    FnG P w K mg base CX0 (k + 1) f fd ps sp :=
  okGD F S ar fun cdv A outer s H vs Q E hg hr h => let ⟨t, h1, h2⟩ := hb cdv A outer s H vs Q E hg hr h; ⟨t, h1.nox, h2⟩
end
theorem rep_zero (n : Nat) : repS "0" n = ⟨(List.replicate n 48).toArray⟩ := by
  unfold repS
  rw [show ("0" : Str).cps.toList = [48] from rfl]
  congr 2
  induction n with
  | zero => rfl
  | succ n ih => rw [List.replicate_succ, List.flatten_cons, ih]; rfl
theorem big_text1 : ("1" : Str) ++ repS "0" 900 = bigS := by
  rw [rep_zero, show ("1" : Str) = ⟨#[49]⟩ from rfl]
  show (⟨#[49] ++ (List.replicate 900 48).toArray⟩ : Str) = _
  unfold bigS bigC
  simp
theorem big_arg {σ : L2.St} {H : Hp} {Q : List V → Hp → Prop} (h : Q [V.str bigS] H) :
    tCons (tOp rAddS (tC (V.str "1")) (tOp (fun x y H Q => ∃ (z : Str) (k : Nat), x = .str z ∧ y = .int (k : Int) ∧ z.length * k ≤ 10000000 ∧ k ≤ 10000000 ∧ z.length ≤ 10000000 ∧ Q (.str (repS z k)) H) (tC (V.str "0")) (tC (V.int 900)))) tNil σ H Q :=
  ⟨"0", 900, rfl, rfl, by decide +kernel, by decide, by decide, "1", _, rfl, rfl, by rw [repS_length]; decide, by rw [big_text1]; exact h⟩
end Vm
namespace Vm
open PySem PySem.Spec PyProof.Rows L2 Gk
def ClDG (P : Program) (w : World) (K : PySem.W.Frag) (mg : Str → Option Value) (base : Heap) (k : Nat) (x : Str) (ps : List Str) (sp : Sp) (dvs : List V) : Prop :=
  ∃ f fd ds, FnG P w K mg base CX0 k f fd ps sp ∧ mg x = some (.ref f) ∧ PySem.W.keepIn K (.ref f) = true ∧ Vals dvs ds ∧ Binds K fd ps ds
section
variable {X : Cx} {k j n : Nat} {x : Str} {ps ks : List Str} {sp : Sp} {p pos : Pos} {e : Expr} {es : List Expr} {t tk : TA} {kws : List Keyword} {gV : List V → List V → List V} {dvs : List V}
theorem pe_clDG (c : ClDG X.prog X.w X.K X.mg X.base k x ps sp dvs) (gd : X.A.guards = some []) (hr : Room j X.A) (hk : k ≤ j) (hg : Gl X x) (ha : PA X (e :: es) t)
    (hdb : (x == ("__debug__" : Str)) = false := by decide)
    (he : starEach (e :: es) X.env = (false, eval e X.env) :: starEach es X.env := by rfl)
    (hpl : (backTo pos (starEach es X.env)).any (·.1) = false := by rfl) :
    PE X (.Call (.Name x p) (e :: es) [] pos) (tCall sp dvs E0 t) :=
  let ⟨_, _, _, F, hm, kp, r, b⟩ := c
  pe_callG F gd (hr.mono hk) hg hm kp b r pass0 ha hdb he hpl
end
section
variable {K : PySem.W.Frag} {p p' p2 : List Addr} {H H' H2 : Hp} {σ σ' σ2 : L2.St} {α α' α2 α0 : AS} {A A' A2 : FT}
theorem DzK.keys : ∀ {xs : List (Key × V)} {ds : List (Key × Da)}, DzK K p H xs ds → xs.map (·.1) = ds.map (·.1)
  | _, _, .nil => rfl
  | _, _, .cons _ _ t => by rw [List.map_cons, List.map_cons, DzK.keys t]
end
end Vm
namespace Vm
open PySem PySem.Spec PyProof.Rows L2 Gk
end Vm
namespace Vm
open PySem PySem.Spec PyProof.Rows L2 Gk
end Vm
namespace Vm
open PySem PySem.Spec PyProof.Rows L2 Gk
section
variable {K : PySem.W.Frag} {p p' p2 : List Addr} {H H' H2 : Hp} {σ σ' σ2 : L2.St} {α α' α2 α0 : AS} {A A' A2 : FT}
def enuD (xs : List Da) : List Da := xs.mapIdx fun n x => .tuple [.int ((n : Nat) : Int), x]
end
end Vm
namespace Vm
open PySem PySem.Spec PyProof.Rows L2 Gk
/-- the first of that key, or one more -/
def putF {κ τ : Type} [DecidableEq κ] : List (κ × τ) → κ → τ → List (κ × τ)
  | [], k, v => [(k, v)]
  | (j, x) :: r, k, v => if j = k then (j, v) :: r else (j, x) :: putF r k v
section
variable {K : PySem.W.Frag} {p p' p2 : List Addr} {H H' H2 : Hp} {σ σ' σ2 : L2.St} {α α' α2 α0 : AS} {A A' A2 : FT}
theorem KidsK.val (k : Key) : ∀ {r : List (Key × V)} {s : List (Key × Da)} {as : List Addr}, KidsK K p H r s as → (valA s k = none ∧ valV r k = none) ∨ ∃ c x, valA s k = some x ∧ valV r k = some (.ref c) ∧ c ∈ as ∧ Top K p H false c x
  | _, _, _, .nil => .inl ⟨rfl, rfl⟩
  | _, _, _, .cons (k := j) (c := c) (x := x) h d t => by
    by_cases e : j = k
    · exact .inr ⟨c, x, by simp [valA, e], by rw [valV_pos (by exact e)], List.mem_cons_self .., d⟩
    · rcases KidsK.val k t with ⟨h1, h2⟩ | ⟨c', x', h1, h2, h3, h4⟩
      · exact .inl ⟨by simpa [valA, List.find?_cons, e] using h1, by rw [valV_neg (by exact e)]; exact h2⟩
      · exact .inr ⟨c', x', by simpa [valA, List.find?_cons, e] using h1, by rw [valV_neg (by exact e)]; exact h2, List.mem_cons_of_mem _ h3, h4⟩
theorem KidsK.put {k : Key} {c : Addr} {o' : HO} {x' : Da} (t : Tr p H p (L2.upd H c o')) (top : Top K p (L2.upd H c o') false c x') : ∀ {r : List (Key × V)} {s : List (Key × Da)} {as : List Addr}, KidsK K p H r s as → as.Nodup → valV r k = some (.ref c) → c ∈ as → KidsK K p (L2.upd H c o') r (putF s k x') as
  | _, _, _, .nil, _, e, _ => by cases e
  | _, _, _, .cons (k := j) (c := c0) (x := x) (as := as) h d r, nd, e, m => by
    obtain ⟨n1, n2⟩ := List.nodup_cons.mp nd
    by_cases z : j = k
    · rw [valV_pos (by exact z)] at e
      cases e
      rw [show putF ((j, x) :: _) k x' = (j, x') :: _ from if_pos z]
      exact .cons h top (r.tr t fun b mb o ho => (upd_ne (fun y : b = c => n1 (by rw [← y]; exact mb))).trans ho)
    · rw [valV_neg (by exact z)] at e
      have hc : c ∈ as := by
        rcases List.mem_cons.mp m with y | y
        · subst y
          rcases KidsK.val k r with ⟨_, h2⟩ | ⟨c', x', _, h2, h3, _⟩
          · rw [h2] at e; cases e
          · rw [h2] at e; cases e; exact h3
        · exact y
      rw [show putF ((j, x) :: _) k x' = (j, x) :: putF _ k x' from if_neg z]
      exact .cons h (d.tr t fun o ho => by rw [upd_ne (fun y => n1 (by rw [y]; exact hc))]; exact ho) (KidsK.put t top r n2 e hc)
theorem KidsT.val (k : List Key) : ∀ {r : List (List Key × V)} {s : List (List Key × Da)} {as : List Addr}, KidsT K p H r s as → (valA s k = none ∧ valV r k = none) ∨ ∃ c x, valA s k = some x ∧ valV r k = some (.ref c) ∧ c ∈ as ∧ Top K p H false c x
  | _, _, _, .nil => .inl ⟨rfl, rfl⟩
  | _, _, _, .cons (k := j) (c := c) (x := x) h d t => by
    by_cases e : j = k
    · exact .inr ⟨c, x, by simp [valA, e], by rw [valV_pos (by exact e)], List.mem_cons_self .., d⟩
    · rcases KidsT.val k t with ⟨h1, h2⟩ | ⟨c', x', h1, h2, h3, h4⟩
      · exact .inl ⟨by simpa [valA, List.find?_cons, e] using h1, by rw [valV_neg (by exact e)]; exact h2⟩
      · exact .inr ⟨c', x', by simpa [valA, List.find?_cons, e] using h1, by rw [valV_neg (by exact e)]; exact h2, List.mem_cons_of_mem _ h3, h4⟩
theorem KidsT.put {k : List Key} {c : Addr} {o' : HO} {x' : Da} (t : Tr p H p (L2.upd H c o')) (top : Top K p (L2.upd H c o') false c x') : ∀ {r : List (List Key × V)} {s : List (List Key × Da)} {as : List Addr}, KidsT K p H r s as → as.Nodup → valV r k = some (.ref c) → c ∈ as → KidsT K p (L2.upd H c o') r (putF s k x') as
  | _, _, _, .nil, _, e, _ => by cases e
  | _, _, _, .cons (k := j) (c := c0) (x := x) (as := as) h d r, nd, e, m => by
    obtain ⟨n1, n2⟩ := List.nodup_cons.mp nd
    by_cases z : j = k
    · rw [valV_pos (by exact z)] at e
      cases e
      rw [show putF ((j, x) :: _) k x' = (j, x') :: _ from if_pos z]
      exact .cons h top (r.tr t fun b mb o ho => (upd_ne (fun y : b = c => n1 (by rw [← y]; exact mb))).trans ho)
    · rw [valV_neg (by exact z)] at e
      have hc : c ∈ as := by
        rcases List.mem_cons.mp m with y | y
        · subst y
          rcases KidsT.val k r with ⟨_, h2⟩ | ⟨c', x', _, h2, h3, _⟩
          · rw [h2] at e; cases e
          · rw [h2] at e; cases e; exact h3
        · exact y
      rw [show putF ((j, x) :: _) k x' = (j, x) :: putF _ k x' from if_neg z]
      exact .cons h (d.tr t fun o ho => by rw [upd_ne (fun y => n1 (by rw [y]; exact hc))]; exact ho) (KidsT.put t top r n2 e hc)
end
end Vm
namespace Vm
open PySem PySem.Spec PyProof.Rows L2 Gk
section
variable {K : PySem.W.Frag} {p p' p2 : List Addr} {H H' H2 : Hp} {σ σ' σ2 : L2.St} {α α' α2 α0 : AS} {A A' A2 : FT}
theorem KidsK.len : ∀ {r : List (Key × V)} {s : List (Key × Da)} {as : List Addr}, KidsK K p H r s as → r.length = s.length
  | _, _, _, .nil => rfl
  | _, _, _, .cons _ _ t => congrArg (· + 1) (KidsK.len t)
theorem KidsT.len : ∀ {r : List (List Key × V)} {s : List (List Key × Da)} {as : List Addr}, KidsT K p H r s as → r.length = s.length
  | _, _, _, .nil => rfl
  | _, _, _, .cons _ _ t => congrArg (· + 1) (KidsT.len t)
end
end Vm
namespace Vm
open PySem PySem.Spec PyProof.Rows L2 Gk
theorem each_ix {β : Type} {R : Value → β → Prop} : ∀ {vs : List Value} {bs : List β}, vs.length = bs.length → (∀ (i : Nat) (v : Value) (b : β), vs[i]? = some v → bs[i]? = some b → R v b) → PySem.W.EachIs R vs bs
  | [], [], _, _ => .nil
  | v :: vs, b :: bs, hl, h => .cons (h 0 v b rfl rfl) (each_ix (by simpa using hl) fun i v b h1 h2 => h (i + 1) v b (by simpa using h1) (by simpa using h2))
  | [], _ :: _, hl, _ => by cases hl
  | _ :: _, [], hl, _ => by cases hl
def kPy : Key → PyData
  | .inl i => .int i
  | .inr s => .str s
def sortK (ks : List Key) : List Key := ks.mergeSort (PySem.W.dataLe false kPy)
def rSortDK : List V → Hp → VK → Prop := fun xs H Q => ∃ (a : Addr) (kvs : List (Key × V)), xs = [.ref a] ∧ Rd H a (.dK kvs) ∧ PySem.W.AllAlike ((kvs.map (·.1)).map kPy) ∧ PySem.W.Sortable ((kvs.map (·.1)).map kPy) ∧
    ∀ p : Addr, H p = none → Q (.ref p) (upd H p (.lst ((sortK (kvs.map (·.1))).map kV)))
theorem cr_sortDK {X : Cx} (calm : X.calm = true) (hu : X.A.units + 70 < cLine) : CallR X (.builtin "sorted") rSortDK := by
  intro pins s σ H xs us Q I r q
  obtain ⟨a, kvs, ex, hd, al, so, q⟩ := q
  subst ex
  obtain ⟨u, eu, rx⟩ := vals1 r
  subst eu
  cases rx
  obtain ⟨z, lo, vs, rel, dd⟩ := dk_rd I.hok hd
  obtain ⟨ep, hat⟩ := dd.dictAt
  have hkeys : vs.map (·.1) = kvs.map (·.1) := rel.keys.symm
  have hl : vs.length = kvs.length := by
    have e := congrArg List.length hkeys
    rw [List.length_map, List.length_map] at e
    exact e
  have h16 : vs.length ≤ sizeLine := by rw [hl]; exact z
  refine Calls.call_function_entry PyProof.Rows.kind_sorted PyProof.Rows.plain_sorted PyProof.Rows.entry_sorted (PyProof.Rows.args_sorted1 _) ?_
  unfold Builtin.«sorted»
  refine wpAny_bind (m := checkCount "sorted" 1 1 _) (wpAny_pure ?_)
  refine wpAny_bind (PySem.W.kdu_collect (A := X.A.in1) (PySem.W.kdl_dict (knd := mixKind X.prog X.w) (kvs := vs) (ep := ep) lo) (I.ok.hd calm) hat h16 fun h' tk acc hk hacc => ?_)
  have hal : acc.toList.length = (kvs.map (·.1)).length := by rw [Array.length_toList, hacc.1, hl, List.length_map]
  have shape : ∀ (j : Nat) (v : Value) (b : Key), acc.toList[j]? = some v → (kvs.map (·.1))[j]? = some b → (∃ i t, b = .inl i ∧ v = .int i t) ∨ ∃ y t, b = .inr y ∧ v = .str y t := fun j v b e eb => by
    obtain ⟨k, x, e1, e2⟩ := hacc.2 j v (by rw [← Array.getElem?_toList]; exact e)
    have e3 : (vs.map (·.1))[j]? = some k := by rw [List.getElem?_map, e1]; rfl
    rw [hkeys, eb] at e3
    cases e3
    rcases keyIs_shape (show keyIs b v = true from e2) with ⟨i, t, ek, ev⟩ | ⟨y, t, ek, ev⟩
    · exact .inl ⟨i, t, ek, ev⟩
    · exact .inr ⟨y, t, ek, ev⟩
  have e : PySem.W.EachIs (fun v k => RelV (kV k) v) acc.toList (kvs.map (·.1)) := each_ix hal fun j v b h1 h2 => by
    rcases shape j v b h1 h2 with ⟨i, t, rfl, rfl⟩ | ⟨y, t, rfl, rfl⟩
    · exact ⟨t, rfl⟩
    · exact ⟨t, rfl⟩
  have I1 : L2.Inv X pins σ H { s with heap := h', toks := tk } := I.kept hk
  refine wpAny_bind (wpAny_newList ?_ (by rw [hal, List.length_map]; exact z))
  have hoL : (h'.push (seqObj "list" acc.toList.toArray 0)).get? h'.objs.size = some (seqObj "list" acc.toList.toArray 0) := Heap.get?_push_size _ rfl
  show wpAny _ _ _ _ _ { s with heap := h'.push (seqObj "list" acc.toList.toArray 0), toks := tk }
  have er : PySem.W.EachIs (fun v k => ∃ as, Reads (h'.push (seqObj "list" acc.toList.toArray 0)) v (kPy k) as ∧ h'.objs.size ∉ as) acc.toList (kvs.map (·.1)) := each_ix hal fun j v b h1 h2 => by
    rcases shape j v b h1 h2 with ⟨i, t, rfl, rfl⟩ | ⟨y, t, rfl, rfl⟩
    · exact ⟨[], .int _ _, List.not_mem_nil⟩
    · exact ⟨[], .str _ _, List.not_mem_nil⟩
  have dep0 : ∀ k : Key, (kPy k).depth = 0 := fun k => by cases k <;> rfl
  refine wpAny_bind (wpAny_holding (PySem.W.list_sort_data (s := { s with heap := h'.push (seqObj "list" acc.toList.toArray 0), toks := tk }) hoL e er al so (by rw [List.length_map]; exact z) (fun b _ => by rw [dep0]; have : X.A.in1.units = X.A.units + 1 := rfl; omega) fun out ol eo => ?_))
  · have rv' : Vals ((sortK (kvs.map (·.1))).map kV) out := by
      have gen : ∀ {us : List Value} {bs : List Key}, PySem.W.EachIs (fun v k => RelV (kV k) v) us bs → Vals (bs.map kV) us := fun {us bs} h => by
        induction h with
        | nil => exact .nil
        | cons h _ ih => exact .cons h ih
      exact gen eo
    obtain ⟨e', he'⟩ := PyProof.Rows.sortedHeap_at (vs := acc.toList) (out := out.toArray) hoL
    have hlen : ((sortK (kvs.map (·.1))).map kV).length ≤ sizeLine := by
      unfold sortK
      rw [List.length_map, List.length_mergeSort, List.length_map]
      exact z
    refine wpAny_pure ⟨_, rfl, .ref h'.objs.size, upd H h'.objs.size (.lst _), I1.laid (t' := tk) (fun b u e => ?_) (Nat.le_refl _) (show ObjOk X.prog X.w _ _ _ (.lst ((sortK (kvs.map (·.1))).map kV)) from ⟨hlen, out, e', rv', he'⟩), rfl, q _ (I1.hok.fresh (Nat.le_refl _))⟩
    have hb : b < h'.objs.size := Heap.lt_size e
    rw [PyProof.Rows.sortedHeap_old (Nat.ne_of_lt hb) (by rw [size_push']; exact Nat.lt_succ_of_lt hb)]
    exact Heap.get?_push_of_some _ e
section
variable {K : PySem.W.Frag} {p p' p2 : List Addr} {H H' H2 : Hp} {σ σ' σ2 : L2.St} {α α' α2 α0 : AS} {A A' A2 : FT}
theorem DzK.oks : ∀ {xs : List (Key × V)} {ds : List (Key × Da)}, DzK K p H xs ds → ∀ k ∈ ds.map (·.1), KeyOk k
  | _, _, .nil, k, m => (List.not_mem_nil m).elim
  | _, _, .cons h _ t, k, m => by
    rw [List.map_cons] at m
    rcases List.mem_cons.mp m with rfl | m
    · exact h
    · exact DzK.oks t k m
open Classical in
noncomputable def fSortDK (ma : MA) : MF := fun α => (ma α).bind fun x => (resA x.2 x.1).bind fun a => match a with
  | [.dk kvs] => if PySem.W.AllAlike ((kvs.map (·.1)).map kPy) ∧ PySem.W.Sortable ((kvs.map (·.1)).map kPy) then some (.r (.list ((sortK (kvs.map (·.1))).map kD)), x.2) else none
  | _ => none
theorem ref_fSortDK {ta : TA} {ma : MA} (ha : RefA K ta ma) : RefF K (tCB rSortDK ta) (fSortDK ma) := ⟨fun p H σ α A r α' Q R e h => by
  simp only [fSortDK, Option.bind_eq_some_iff] at e
  obtain ⟨⟨ls, α1⟩, e1, a, e2, e3⟩ := e
  split at e3
  · rename_i kvs
    split at e3
    · rename_i hc
      cases e3
      refine ha.go p H σ α A ls _ _ R e1 fun p1 H1 A1 vs R1 S1 q1 => ?_
      obtain ⟨v, rfl, hv⟩ := vz1 (resA_vz R1 q1 e2)
      obtain ⟨ad, xs, rfl, h1, h2, h3⟩ := vz_dk hv
      have ek : xs.map (·.1) = kvs.map (·.1) := h3.keys
      refine ⟨ad, xs, rfl, h1, by rw [ek]; exact hc.1, by rw [ek]; exact hc.2, fun q hq => ?_⟩
      rw [ek]
      obtain ⟨R2, S2, nr⟩ := rel_new (o := .lst ((sortK (kvs.map (·.1))).map kV)) R1 hq
      refine h _ _ A1 q [] R2 (S1.trans R S2) (fresh_one (List.mem_cons_self ..) (S1.dom q hq) nr) ⟨rfl, _, upd_same, ?_, keys_dz fun k m => h3.oks k ((List.mergeSort_perm ..).subset m)⟩
      unfold sortK
      rw [List.length_map, List.length_mergeSort, ← ek, List.length_map]
      exact h2
    · cases e3
  · cases e3⟩
end
end Vm
namespace Vm
open PySem PySem.Spec PyProof.Rows L2 Gk
end Vm
namespace Vm
open PySem PySem.Spec PyProof.Rows L2 Gk
section
variable {K : PySem.W.Frag} {p p' p2 : List Addr} {H H' H2 : Hp} {σ σ' σ2 : L2.St} {α α' α2 α0 : AS} {A A' A2 : FT}
theorem DzT.keys : ∀ {xs : List (List Key × V)} {ds : List (List Key × Da)}, DzT K p H xs ds → xs.map (·.1) = ds.map (·.1)
  | _, _, .nil => rfl
  | _, _, .cons _ _ t => by rw [List.map_cons, List.map_cons, DzT.keys t]
theorem DzT.oks : ∀ {xs : List (List Key × V)} {ds : List (List Key × Da)}, DzT K p H xs ds → ∀ k ∈ ds.map (·.1), (∀ x ∈ k, KeyOk x) ∧ k.length ≤ LIM
  | _, _, .nil, k, m => (List.not_mem_nil m).elim
  | _, _, .cons h _ t, k, m => by
    rw [List.map_cons] at m
    rcases List.mem_cons.mp m with rfl | m
    · exact h
    · exact DzT.oks t k m
end
end Vm
namespace Vm
open PySem PySem.Spec PyProof.Rows L2 Gk
end Vm
namespace Vm
open PySem PySem.Spec PyProof.Rows L2 Gk
section
variable {K : PySem.W.Frag} {p p' p2 : List Addr} {H H' H2 : Hp} {σ σ' σ2 : L2.St} {α α' α2 α0 : AS} {A A' A2 : FT}
def sExtend (i : Nat) (ma : MA) : MS := fun α => match rootAt α i with
  | some (_, .list _) => (ma α).bind fun x => (ownA x.2 x.1).bind fun ys => match ys, rootAt x.2 i with
    | [.list zs], some (f, .list xs) => if xs.length + zs.length ≤ LIM then some (.nx (x.2.set i (.r f false (.list (xs ++ zs))))) else none
    | _, _ => none
  | _ => none
theorem ref_extend {i : Nat} {ta : TA} {ma : MA} (ha : RefA K ta ma) : RefS K (tDrop (tBM K "list" rExtend (tVar i) ta)) (sExtend i ma) := ⟨fun p H σ α A o D R e h => by
  unfold sExtend at e
  split at e
  · rename_i f0 xs0 h0
    obtain ⟨a, hs, ha0, vs, h1, h2, h3⟩ := root_at R (rootAt_some h0)
    refine ⟨.ref a, hs, .inl ⟨rfl, vs, .of h1⟩, ?_⟩
    simp only [Option.bind_eq_some_iff] at e
    obtain ⟨⟨l, α1⟩, e1, ys, e2, e3⟩ := e
    split at e3
    · rename_i zs f xs hr
      split at e3
      · rename_i hlt
        cases e3
        refine ha.go p H σ α A l α1 _ R e1 fun p1 H1 A1 us R1 S1 q1 => ?_
        have zu := ownA_dz R1 q1 e2
        cases zu with
        | @cons u _ _ _ d1 d2 =>
          cases d2
          cases d1 with
          | @lst c us' ds' n r hl dz =>
            obtain ⟨b, hs1, ha1, ws, w1, w2, w3⟩ := root_at R1 (rootAt_some hr)
            rw [hs] at hs1
            cases hs1
            have lw : ws.length + us'.length ≤ LIM := by rw [w3.length, dz.length]; exact hlt
            refine ⟨a, c, ws, us', rfl, rfl, w1, r, line_of lw, ?_⟩
            have hp := R1.inp i a (by rw [ha1]; exact List.mem_cons_self ..)
            have t : Tr p1 H1 p1 (L2.upd H1 a (.lst (ws ++ us'))) := tr_upd hp w1 trivial
            have ⟨P, S⟩ := root_put (x' := .list (xs ++ zs)) (o' := .lst (ws ++ us')) R1 (rootAt_some hr) (join_of hs) w1 trivial ha1 ⟨_, upd_same, by rw [List.length_append]; exact lw, (w3.append dz).tr t⟩
            exact h p1 _ σ _ P (S1.trans R S)
      · cases e3
    · cases e3
  · cases e⟩
end
end Vm
namespace Vm
open PySem PySem.Spec PyProof.Rows L2 Gk
end Vm
namespace Vm
open PySem PySem.Spec PyProof.Rows L2 Gk
end Vm
namespace Vm
open PySem PySem.Spec PyProof.Rows L2 Gk
section
variable {K : PySem.W.Frag} {p p' p2 : List Addr} {H H' H2 : Hp} {σ σ' σ2 : L2.St} {α α' α2 α0 : AS} {A A' A2 : FT}
def iEnL (ma : MA) : MI := fun α => (ma α).bind fun l => (ownA l.2 l.1).bind fun x => match x with
  | [.list xs] => some ((enuD xs, []), l.2)
  | _ => none
theorem el_ok {a : Addr} {us : List V} {xs : List Da} (hp : a ∉ p) (ha : H a = some (.lst us)) (dx : DzA K p H us xs) : ItR K p H σ α (Ite K a) (enuD xs) [] := ⟨fun p1 H1 σ1 α1 A1 R1 t _ => by
  have ha1 := SqL.of (K := K) (t.ls _ _ hp ha)
  have dx1 := dx.tr t
  refine ⟨fun n x hx => ?_, us, ha1, ?_⟩
  · unfold enuD at hx
    rw [List.getElem?_mapIdx] at hx
    obtain ⟨y, hy, rfl⟩ := Option.map_eq_some_iff.mp hx
    obtain ⟨u, eu, du⟩ := dx1.get hy
    refine ⟨⟨us, u, ha1, eu⟩, fun r H3 q => ?_⟩
    obtain ⟨T, u', rfl, hT, rfl, q1⟩ := q
    have e1 := q1 _ ha1
    rw [eu] at e1
    cases e1
    have s := same_new (o := .tup [.int ((n : Nat) : Int), u]) hT
    exact ⟨s, .tup upd_same (show 2 ≤ LIM by decide) ((DzA.cons (.int _) (.cons du .nil)).tr (tr_same s))⟩
  · unfold enuD
    rw [List.length_mapIdx, dx.length]
    exact Nat.le_refl _⟩
theorem ref_iEnL {ta : TA} {ma : MA} (ha : RefA K ta ma) : RefI K (iEnum K ta) (iEnL ma) := ⟨fun p H σ α A x α' Rr R e h => by
  simp only [iEnL, Option.bind_eq_some_iff] at e
  obtain ⟨⟨ls, α1⟩, e1, y, e2, e3⟩ := e
  split at e3
  · rename_i xs
    cases e3
    refine ha.go p H σ α A ls _ _ R e1 fun p1 H1 A1 vs R1 S1 q1 => ?_
    cases ownA_dz R1 q1 e2 with
    | cons d1 r =>
      cases r
      cases d1 with
      | lst h0 h1 l1 z1 => exact ⟨_, _, rfl, .of h1, h p1 H1 A1 _ R1 S1 (el_ok h0 h1 z1) lockable_nil⟩
  · cases e3⟩
end
end Vm
namespace Vm
open PySem PySem.Spec PyProof.Rows L2 Gk
section
variable {K : PySem.W.Frag} {p p' p2 : List Addr} {H H' H2 : Hp} {σ σ' σ2 : L2.St} {α α' α2 α0 : AS} {A A' A2 : FT}
theorem pa_starK {X : Cx} {e : Expr} {es : List Expr} {sp : Pos} {te : TE} {t : TA} (hK : X.K = K) (he : PE X e te) (hr : PA X es t) (hs : starEach (.Starred e sp :: es) X.env = (true, eval e X.env) :: starEach es X.env := by rfl) : PA X (.Starred e sp :: es) (StX.tStar K te t) := by
  subst hK
  exact StX.pa_star he hr hs
def aStar (ma : ME) (mr : MA) : MA := fun α => (ma α).bind fun x => (own x.2 x.1).bind fun d => match d with
  | .tuple xs => (mr x.2).bind fun y => some (xs.map Lc.d ++ y.1, y.2)
  | _ => none
theorem loc_ds : ∀ {vs : List V} {ds : List Da}, DzA K p H vs ds → LocA K p H σ vs (ds.map Lc.d)
  | _, _, .nil => .nil
  | _, _, .cons h t => .cons h (loc_ds t)
theorem locA_step : ∀ {vs : List V} {ls : List Lc}, Rel K p H σ α A → Step p H σ α A p' H' σ α' A' → LocA K p H σ vs ls → LocA K p' H' σ vs ls
  | _, _, _, _, .nil => .nil
  | _, _, R, S, .cons h t => .cons (LocR.step R S h) (locA_step R S t)
theorem ref_star {te : TE} {tr : TA} {ma : ME} {mr : MA} (ha : RefE K te ma) (hr : RefA K tr mr) : RefA K (StX.tStar K te tr) (aStar ma mr) :=
  ⟨fun p H σ α A l α' Q R e h => by
    simp only [aStar, Option.bind_eq_some_iff] at e
    obtain ⟨⟨l1, α1⟩, e1, d, e2, e3⟩ := e
    split at e3
    · rename_i xs
      obtain ⟨⟨l2, α2⟩, e4, e5⟩ := Option.bind_eq_some_iff.mp e3
      cases e5
      refine ha.go p H σ α A l1 α1 _ R e1 fun p1 H1 A1 v R1 S1 q1 => ?_
      cases own_dz R1 q1 e2 with
      | tup h1 h2 h3 =>
        refine ⟨_, _, rfl, .inl (.of h1), ?_⟩
        refine hr.go p1 H1 σ α1 A1 l2 α2 _ R1 e4 fun p2 H2 A2 w R2 S2 q2 => ?_
        exact h p2 H2 A2 _ R2 (S1.trans R S2) (paired_app (locA_step R1 S2 (loc_ds h3)) q2)
    · cases e3⟩
end
end Vm
namespace Gk
open PySem PySem.Spec PyProof.Rows L2
end Gk
namespace Vm
open PySem PySem.Spec PyProof.Rows L2 Gk
end Vm
namespace Vm
open PySem PySem.Spec PyProof.Rows L2 Gk
end Vm
namespace Vm
open PySem PySem.Spec PyProof.Rows L2 Gk
def Wp {τ : Type} (o : Option τ) (Q : τ → Prop) : Prop := ∃ r, o = some r ∧ Q r
theorem Wp.mono {τ : Type} {o : Option τ} {Q R : τ → Prop} (h : Wp o Q) (i : ∀ r, Q r → R r) : Wp o R := let ⟨r, e, q⟩ := h; ⟨r, e, i r q⟩
theorem wp_some {τ : Type} {a : τ} {Q : τ → Prop} : Wp (some a) Q = Q a := propext ⟨fun ⟨_, e, q⟩ => by cases e; exact q, fun q => ⟨a, rfl, q⟩⟩
theorem wp_none {τ : Type} {Q : τ → Prop} : Wp none Q = False := propext ⟨fun ⟨_, e, _⟩ => (nomatch e), False.elim⟩
theorem wp_bind {τ υ : Type} {o : Option τ} {f : τ → Option υ} {Q : υ → Prop} : Wp (o.bind f) Q = Wp o fun a => Wp (f a) Q := propext ⟨fun ⟨r, e, q⟩ => by
  obtain ⟨a, e1, e2⟩ := Option.bind_eq_some_iff.mp e
  exact ⟨a, e1, r, e2, q⟩, fun ⟨a, e1, r, e2, q⟩ => ⟨r, Option.bind_eq_some_iff.mpr ⟨a, e1, e2⟩, q⟩⟩
theorem wp_if {τ : Type} {c : Prop} [Decidable c] {a b : Option τ} {Q : τ → Prop} : Wp (if c then a else b) Q = ((c → Wp a Q) ∧ (¬c → Wp b Q)) := by
  by_cases h : c <;> simp [h]
/-- the parts of a comprehension, one by one; the state is told by s -/
theorem cm_all {β S : Type} {vs : List Nat} {g : MG} {tt : MT} {u : AS → Option (List β × AS)} {St : S → AS} {OK : S → Prop} {P : Da → List β → Prop} : ∀ {xs : List Da} {s : S},
    (∀ x ∈ xs, ∀ s, OK s → Wp (g x (St s)) fun α1 => Wp (tt α1) fun c => if c.1 = true then Wp (u c.2) fun y => P x y.1 ∧ ∃ s', OK s' ∧ wipeA y.2 vs = St s' else P x [] ∧ ∃ s', OK s' ∧ wipeA c.2 vs = St s') →
    OK s → Wp (cmL vs g tt u xs (St s)) fun r => ∃ yss s', OK s' ∧ r = (yss.flatten, St s') ∧ Paired P xs yss
  | [], s, _, hs => ⟨_, rfl, [], s, hs, rfl, .nil⟩
  | x :: xs, s, h, hs => by
    unfold cmL
    rw [wp_bind]
    refine (h x (List.mem_cons_self ..) s hs).mono fun α1 h1 => ?_
    rw [wp_bind]
    refine h1.mono fun c h2 => ?_
    have rest : ∀ s', OK s' → Wp (cmL vs g tt u xs (St s')) fun r => ∃ yss s', OK s' ∧ r = (yss.flatten, St s') ∧ Paired P xs yss := fun s' hs' =>
      cm_all (fun x m => h x (List.mem_cons_of_mem _ m)) hs'
    by_cases hc : c.1 = true
    · rw [if_pos hc] at h2 ⊢
      rw [wp_bind]
      refine h2.mono fun y ⟨hp, s', hs', e⟩ => ?_
      rw [wp_bind, e]
      refine (rest s' hs').mono fun r ⟨yss, s2, h3, er, pr⟩ => ?_
      subst er
      rw [wp_some]
      exact ⟨y.1 :: yss, s2, h3, rfl, .cons hp pr⟩
    · rw [if_neg hc] at h2 ⊢
      obtain ⟨hp, s', hs', e⟩ := h2
      rw [e]
      refine (rest s' hs').mono fun r ⟨yss, s2, h3, er, pr⟩ => ?_
      subst er
      exact ⟨[] :: yss, s2, h3, rfl, .cons hp pr⟩
theorem ones_flat {β : Type} {P : Da → β → Prop} : ∀ {xs : List Da} {yss : List (List β)}, Paired (fun x ys => ∃ y, ys = [y] ∧ P x y) xs yss → ∃ ys, yss.flatten = ys ∧ Paired P xs ys
  | _, _, .nil => ⟨[], rfl, .nil⟩
  | _, _, .cons ⟨y, e, h⟩ t => by
    obtain ⟨ys, e2, p⟩ := ones_flat t
    subst e
    exact ⟨y :: ys, by rw [List.flatten_cons, e2]; rfl, .cons h p⟩
/-- a list comprehension without a test -/
theorem lc_wp {S : Type} {i : MI} {vs : List Nat} {g : MG} {me : ME} {St : S → AS} {OK : S → Prop} {P : Da → Da → Prop} {α : AS} {Q : Nw × AS → Prop}
    (hi : Wp (i α) fun x => ∃ s, OK s ∧ x.1.2 = [] ∧ noRoots x.2 vs ∧ wipeA x.2 vs = St s ∧ x.1.1.length ≤ LIM ∧
      (∀ y ∈ x.1.1, ∀ s, OK s → Wp (g y (St s)) fun α1 => Wp (me α1) fun l => Wp (own l.2 l.1) fun z => P y z ∧ ∃ s', OK s' ∧ wipeA l.2 vs = St s') ∧
      ∀ ys s', OK s' → Paired P x.1.1 ys → Q (.r (.list ys), backA x.2 (St s') vs)) : Wp (fLc (cmI i vs g tYesM (mLc me)) α) Q := by
  unfold fLc cmI
  rw [wp_bind, wp_bind]
  refine hi.mono fun x hx => ?_
  obtain ⟨s, hs, e1, nr, e2, hl, h, q⟩ := hx
  rw [e1, if_pos ⟨nr, fun i m => (List.not_mem_nil m).elim⟩, wp_bind, lockA_nil, e2]
  refine (cm_all (P := fun x ys => ∃ y, ys = [y] ∧ P x y) (fun y m s hs => ?_) hs).mono ?_
  · refine (h y m s hs).mono fun α1 h1 => ?_
    show Wp (some (true, α1)) _
    rw [wp_some]
    show Wp (mLc me α1) _
    unfold mLc
    rw [wp_bind]
    refine h1.mono fun l h2 => ?_
    rw [wp_bind]
    refine h2.mono fun z h3 => ?_
    rw [wp_some]
    exact ⟨⟨z, rfl, h3.1⟩, h3.2⟩
  · rintro r ⟨yss, s', hs', er, pr⟩
    subst er
    obtain ⟨ys, e, p2⟩ := ones_flat pr
    rw [wp_some, freeA_nil, wp_if]
    have hlen : ys.length = x.1.1.length := (paired_len p2).symm
    refine ⟨fun _ => ?_, fun z => (z ?_).elim⟩
    · rw [wp_some, e]
      exact q ys s' hs' p2
    · show yss.flatten.length ≤ LIM
      rw [e, hlen]
      exact hl
theorem lc_go {S : Type} {i : MI} {vs : List Nat} {g : MG} {me : ME} {St : S → AS} {OK : S → Prop} {P : Da → Da → Prop} {α α1 : AS} {Q : Nw × AS → Prop} {xs : List Da} {s : S}
    (hi : i α = some ((xs, []), α1)) (hs : OK s) (nr : noRoots α1 vs) (e2 : wipeA α1 vs = St s) (hl : xs.length ≤ LIM)
    (h : ∀ y ∈ xs, ∀ s, OK s → Wp (g y (St s)) fun α1 => Wp (me α1) fun l => Wp (own l.2 l.1) fun z => P y z ∧ ∃ s', OK s' ∧ wipeA l.2 vs = St s')
    (q : ∀ ys s', OK s' → Paired P xs ys → Q (.r (.list ys), backA α1 (St s') vs)) : Wp (fLc (cmI i vs g tYesM (mLc me)) α) Q :=
  lc_wp ⟨_, hi, s, hs, rfl, nr, e2, hl, h, q⟩
def rgN (n : Nat) : List Da := (List.range n).map fun k : Nat => Da.int (k : Int)
theorem rgN_len (n : Nat) : (rgN n).length = n := by unfold rgN; rw [List.length_map, List.length_range]
theorem rgN_mem {n : Nat} {x : Da} (h : x ∈ rgN n) : ∃ k : Nat, k < n ∧ x = .int (k : Int) := by
  unfold rgN at h
  obtain ⟨k, m, rfl⟩ := List.mem_map.mp h
  exact ⟨k, List.mem_range.mp m, rfl⟩
theorem noRoots_of {α : AS} {vs : List Nat} (h : (vs.all fun i => (α[i]?).all fun r => !r.isRoot) = true) : noRoots α vs := fun i m r e => by
  have h1 := List.all_eq_true.mp h i m
  rw [e] at h1
  simpa using h1
end Vm
namespace Vm
open PySem PySem.Spec PyProof.Rows L2 Gk
def lettersS : Str := "abcdefghijklmnopqrstuvwxyz"
def Tx (n : Nat) (x : Str) : Prop := x.length ≤ n ∧ ∀ c ∈ x.cps.toList, c < 1000000
theorem Tx.mono {n m : Nat} {x : Str} (h : Tx n x) (l : n ≤ m) : Tx m x := ⟨Nat.le_trans h.1 l, h.2⟩
theorem Tx.cat {n m : Nat} {x y : Str} (h : Tx n x) (k : Tx m y) : Tx (n + m) (x ++ y) := by
  refine ⟨?_, fun c hc => ?_⟩
  · rw [strLen_append]
    have := h.1
    have := k.1
    omega
  · have e : (x ++ y).cps.toList = x.cps.toList ++ y.cps.toList := by
      show (x.cps ++ y.cps).toList = _
      simp
    rw [e] at hc
    exact (List.mem_append.mp hc).elim (h.2 c) (k.2 c)
theorem Tx.cut {n : Nat} {x : Str} (h : Tx n x) (lo hi : Option Int) : Tx n (cutS x lo hi) := by
  refine ⟨Nat.le_trans (cutS_length x lo hi) h.1, fun c hc => h.2 c ?_⟩
  exact List.mem_of_mem_drop (List.mem_of_mem_take hc)
theorem Tx.one {c : Nat} (h : c < 1000000) : Tx 1 ⟨#[c]⟩ := ⟨Nat.le_refl 1, fun e he => by
  have : e = c := by simpa using he
  rw [this]; exact h⟩
theorem letters_small : ∀ c ∈ lettersS.cps.toList, c < 1000000 := by decide +kernel
/-- a name as it is drawn -/
def Nm (x : Str) : Prop := 1 ≤ x.length ∧ x.length ≤ 6 ∧ ∀ c ∈ x.cps.toList, c ∈ lettersS.cps.toList
theorem Nm.tx {x : Str} (h : Nm x) : Tx 6 x := ⟨h.2.1, fun c hc => letters_small c (h.2.2 c hc)⟩
theorem join_one {ys : List Str} (h : ∀ y ∈ ys, ∃ c, y = ⟨#[c]⟩ ∧ c ∈ lettersS.cps.toList) :
    (Txt.join "" ys).length = ys.length ∧ ∀ c ∈ (Txt.join "" ys).cps.toList, c ∈ lettersS.cps.toList := by
  rw [TL.join_eq]
  induction ys with
  | nil => exact ⟨rfl, fun c hc => absurd hc List.not_mem_nil⟩
  | cons y r ih =>
    obtain ⟨c, rfl, hc⟩ := h y (List.mem_cons_self ..)
    have ih := ih fun z hz => h z (List.mem_cons_of_mem _ hz)
    cases r with
    | nil => exact ⟨rfl, fun e he => by
        have : e = c := by simpa [Str.join] using he
        rw [this]; exact hc⟩
    | cons z r =>
      have e : Str.join "" (⟨#[c]⟩ :: z :: r) = (⟨#[c]⟩ ++ "" ++ Str.join "" (z :: r) : Str) := rfl
      rw [e]
      refine ⟨?_, fun e he => ?_⟩
      · rw [strLen_append, strLen_append, ih.1]
        show 1 + 0 + (r.length + 1) = r.length + 1 + 1
        omega
      · have q : ((⟨#[c]⟩ : Str) ++ "" ++ Str.join "" (z :: r)).cps.toList = c :: (Str.join "" (z :: r)).cps.toList := by
          show ((#[c] ++ #[]) ++ (Str.join "" (z :: r)).cps).toList = _
          simp
        rw [q] at he
        rcases List.mem_cons.mp he with z' | z'
        · rw [z']; exact hc
        · exact ih.2 e z'
theorem shown_z {z : Str} (h : Tx 6 z) : (PyData.str z).shown.length ≤ 62 := by
  have := StrLaws.reprText_len z fun c hc => Nat.lt_of_lt_of_le (h.2 c hc) (by decide)
  have := h.1
  show (reprText z).length ≤ 62
  omega
theorem all_sh : ∀ {ds : List PyData}, (∀ d ∈ ds, d.showable = true) → PyData.showableAll ds = true
  | [], _ => rfl
  | d :: ds, h => by
    simp only [PyData.showableAll, h d (List.mem_cons_self ..), all_sh fun e he => h e (List.mem_cons_of_mem _ he), Bool.and_self]
theorem all_dp {k : Nat} : ∀ {ds : List PyData}, (∀ d ∈ ds, d.depth ≤ k) → PyData.depthAll ds ≤ k
  | [], _ => by simp only [PyData.depthAll]; omega
  | d :: ds, h => by
    have h1 := h d (List.mem_cons_self ..)
    have h2 := all_dp fun e he => h e (List.mem_cons_of_mem _ he)
    simp only [PyData.depthAll]
    omega
theorem all_nd : ∀ {ds : List PyData}, (∀ d ∈ ds, d.hasDict = false) → PyData.hasDictAll ds = false
  | [], _ => rfl
  | d :: ds, h => by
    simp only [PyData.hasDictAll, h d (List.mem_cons_self ..), all_nd fun e he => h e (List.mem_cons_of_mem _ he), Bool.or_self]
theorem six_in : ∀ c ∈ ("abcxyz" : Str).cps.toList, c ∈ lettersS.cps.toList := by decide +kernel
def Ls (n : Nat) (x : Str) : Prop := x.length ≤ n ∧ ∀ c ∈ x.cps.toList, c ∈ lettersS.cps.toList
theorem Ls.cat {n m : Nat} {x y : Str} (h : Ls n x) (k : Ls m y) : Ls (n + m) (x ++ y) := by
  refine ⟨by rw [strLen_append]; exact Nat.add_le_add h.1 k.1, fun c hc => ?_⟩
  have e : (x ++ y).cps.toList = x.cps.toList ++ y.cps.toList := by
    show (x.cps ++ y.cps).toList = _
    simp
  rw [e] at hc
  exact (List.mem_append.mp hc).elim (h.2 c) (k.2 c)
theorem Ls.cut {n : Nat} {x : Str} (h : Ls n x) (lo hi : Option Int) : Ls n (cutS x lo hi) :=
  ⟨Nat.le_trans (cutS_length x lo hi) h.1, fun c hc => h.2 c (List.mem_of_mem_drop (List.mem_of_mem_take hc))⟩
theorem cut_both (x : Str) (k : Nat) : (cutS x none (some (k : Int))).length + (cutS x (some (k : Int)) none).length = x.length := by
  show (List.take _ _).toArray.size + (List.take _ _).toArray.size = _
  rw [List.size_toArray, List.size_toArray, List.length_take, List.length_take, List.length_drop, List.length_drop, Array.length_toList]
  have e1 : HT.sIx x.length x.length (some (k : Int)) = min k x.length := HT.sIx_nat _ _ k
  have e2 : HT.sIx x.length 0 (some (k : Int)) = min k x.length := HT.sIx_nat _ _ k
  have e3 : HT.sIx x.length 0 none = 0 := rfl
  have e4 : HT.sIx x.length x.length none = x.length := rfl
  rw [e1, e2, e3, e4]
  show min (min k x.cps.size - 0) (x.cps.size - 0) + min (x.cps.size - min k x.cps.size) (x.cps.size - min k x.cps.size) = x.cps.size
  omega
structure Sh (d : PyData) (k n : Nat) : Prop where
  ok : d.showable = true
  deep : d.depth ≤ k
  size : d.shown.length ≤ n
  clean : d.hasDict = false
theorem Sh.shows {d : PyData} {k n : Nat} (h : Sh d k n) (hk : k ≤ 30) (hn : n ≤ 16000000) : Shows d := ⟨h.ok, Nat.le_trans h.deep hk, Nat.le_trans h.size hn, .inl h.clean⟩
theorem Sh.mono {d : PyData} {k n k' n' : Nat} (h : Sh d k n) (hk : k ≤ k') (hn : n ≤ n') : Sh d k' n' := ⟨h.ok, Nat.le_trans h.deep hk, Nat.le_trans h.size hn, h.clean⟩
theorem tup_sh {ds : List PyData} {k n m : Nat} (h : ∀ d ∈ ds, Sh d k n) (hl : ds.length ≤ m) : Sh (.tuple ds) (k + 1) (m * (n + 2) + 3) := by
  refine ⟨all_sh fun d hd => (h d hd).ok, ?_, ?_, all_nd fun d hd => (h d hd).clean⟩
  · have := all_dp fun d hd => (h d hd).deep
    simp only [PyData.depth]
    omega
  · have := shown_tuple_le fun d hd => (h d hd).size
    have := Nat.mul_le_mul_right (n + 2) hl
    omega
theorem lst_sh {ds : List PyData} {k n m : Nat} (h : ∀ d ∈ ds, Sh d k n) (hl : ds.length ≤ m) : Sh (.list ds) (k + 1) (m * (n + 2) + 3) := by
  refine ⟨all_sh fun d hd => (h d hd).ok, ?_, ?_, all_nd fun d hd => (h d hd).clean⟩
  · have := all_dp fun d hd => (h d hd).deep
    simp only [PyData.depth]
    omega
  · have := shown_list_le fun d hd => (h d hd).size
    have := Nat.mul_le_mul_right (n + 2) hl
    omega
theorem str_sh {z : Str} (h : Nm z) : Sh (.str z) 0 62 := ⟨rfl, Nat.le_refl _, shown_z h.tx, rfl⟩
end Vm
namespace Wo
open PySem PySem.Spec PyProof.Rows L2 Gk Vm
noncomputable def m_is_whole : MS := (sRet (eAnd (eIsi "int" (eV 0)) (eNot (eIsi "bool" (eV 0)))))
noncomputable def F_is_whole : FV := mDef 1 1 m_is_whole
noncomputable def m_law_pot : MS := (sSeq (sAsg (eOp fAdd (eOp fMul (eC (.int 3)) (eV 1)) (eScLen 0)) (setD 2))
  (sSeq (sIf (tOfE (eOp fLtA (eV 1) (eScLen 0))) (sAsg (eScIx 0 (eV 1)) (setD 2)) sNext)
  (sSeq (sAsg (eOp fMul (eOp fMod (eCB fAbs (aCons (eV 2) aNil)) eBig) (eCB fInt (aCons (eOp fGe (eCB fAbs (aCons (eV 2) aNil)) (eOp fPow (eC (.int 10)) (eC (.int 18)))) aNil))) (setD 3))
  (sRetF (fLst (aCons (eV 3) (aCons (eOp fMod (eOp fMul (eOp fAdd (eOp fAdd (eOp fMod (eV 2) (eC (.int 2305843009213693951))) (eOp fMul (eOp fMul (eC (.int 7919)) (eV 1)) (eV 1))) (eC (.int 11))) (eC (.int 48271))) (eC (.int 2305843009213693951))) aNil)))))))
noncomputable def F_law_pot : FV := mDef 2 4 m_law_pot
noncomputable def m_law_take : MS := (sSeq (sIf (tOfE (eOp fGt (eOp fSubs (eV 0) (eC (.int 0))) (eC (.int 0)))) (sSeq (sAsg (eOp fMod (eOp fSubs (eV 0) (eC (.int 0))) (eV 1)) (setD 2))
  (sSeq (sSetI 0 (eOp fDiv (eOp fSubs (eV 0) (eC (.int 0))) (eV 1)) (eC (.int 0)))
  (sRet (eV 2)))) sNext)
  (sSeq (sSetI 0 (eOp fMod (eOp fAdd (eOp fMul (eOp fSubs (eV 0) (eC (.int 1))) (eC (.int 1181783497276652981))) (eC (.int 12345678910987))) (eC (.int 2305843009213693951))) (eC (.int 1)))
  (sRet (eOp fMod (eOp fDiv (eOp fMod (eOp fMul (eOp fDiv (eOp fSubs (eV 0) (eC (.int 1))) (eC (.int 65537))) (eOp fAdd (eOp fMod (eOp fSubs (eV 0) (eC (.int 1))) (eC (.int 65537))) (eC (.int 3)))) (eC (.int 2305843009213693921))) (eC (.int 97))) (eV 1)))))
noncomputable def F_law_take : FV := mDef 2 3 m_law_take
noncomputable def m_law_of : MS := (sRet (eOp fSubs (eV 1) (eCall F_law_take [] (aCons (eV 0) (aCons (eCB fLenB (aCons (eV 1) aNil)) aNil)))))
noncomputable def F_law_of : FV := mDef 2 2 m_law_of
noncomputable def m_law_names : MS := (sSeq (sAsg (eJoin (eC (.str (Str.ofString ""))) (eF (fLc (cmI (iRg1 (aCons (eCall F_law_take [] (aCons (eV 0) (aCons (eC (.int 6)) aNil))) aNil)) [7] (setD 7) tYesM (mLc (eCall F_law_of [] (aCons (eV 0) (aCons (eF (fListM (aCons (eC (.str (Str.ofString "abcxyz"))) aNil))) aNil)))))))) (setD 2))
  (sSeq (sAsg (eTup (aCons (eCall F_law_take [] (aCons (eV 0) (aCons (eOp fAdd (eCB fLenB (aCons (eV 2) aNil)) (eC (.int 1))) aNil))) (aCons (eCall F_law_take [] (aCons (eV 0) (aCons (eC (.int 26)) aNil))) (aCons (eCall F_law_of [] (aCons (eV 0) (aCons (eF (fLst (aCons (eC (.int 1)) (aCons (eC (.int 3)) (aCons (eC (.int 5)) (aCons (eC (.int 7)) (aCons (eC (.int 9)) (aCons (eC (.int 11)) aNil)))))))) aNil))) aNil)))) (gTupD 3 (gsCons (setD 3) (gsCons (setD 4) (gsCons (setD 5) gsNil)))))
  (sSeq (sAsg (eF (fLc (cmI (iRg1 (aCons (eV 1) aNil)) [7] (setD 7) tYesM (mLc (eOp fSubs (eC (.str (Str.ofString "abcdefghijklmnopqrstuvwxyz"))) (eOp fMod (eOp fAdd (eV 4) (eOp fMul (eV 5) (eV 7))) (eC (.int 26)))))))) (setD 6))
  (sRet (eF (fSortM (aCons (eF (fLc (cmI (iAny (eV 6)) [8] (setD 8) tYesM (mLc (eOp fAdd (eOp fAdd (eSl (eV 2) oNone (oSome (eV 3))) (eV 8)) (eSl (eV 2) (oSome (eV 3)) oNone)))))) aNil)))))))
noncomputable def F_law_names : FV := mDef 2 9 m_law_names
noncomputable def m_law_word : MS := (sSeq (sAsg (eTup (aCons (eCall F_law_take [] (aCons (eV 0) (aCons (eOp fAdd (eV 2) (eC (.int 1))) aNil))) (aCons (eCall F_law_take [] (aCons (eV 0) (aCons (eC (.int 4)) aNil))) (aCons (eOp fAdd (eC (.int 1)) (eCall F_law_take [] (aCons (eV 0) (aCons (eC (.int 3)) aNil)))) aNil)))) (gTupD 3 (gsCons (setD 3) (gsCons (setD 4) (gsCons (setD 5) gsNil)))))
  (sSeq (sAsg (eF (fLc (cmI (iRg1 (aCons (eV 5) aNil)) [8] (setD 8) tYesM (mLc (eCall F_law_of [] (aCons (eV 0) (aCons (eV 1) aNil))))))) (setD 6))
  (sSeq (sIf (tOfE (eOp fEqS (eV 4) (eC (.int 0)))) (sRet (eCB fTuple (aCons (eF (fLc (cmI (iRg1 (aCons (eV 3) aNil)) [8] (setD 8) tYesM (mLc (eCall F_law_of [] (aCons (eV 0) (aCons (eV 1) aNil))))))) aNil))) sNext)
  (sSeq (sAsgR 7 (fLc (cmI (iRg1 (aCons (eV 3) aNil)) [8] (setD 8) tYesM (mLc (eOp fSubs (eV 6) (eOp fMod (eV 8) (eV 5)))))))
  (sSeq (sIf (mAnd (tOfE (eOp fGt (eV 4) (eC (.int 1)))) (tOfE (eOp fGt (eV 3) (eC (.int 1))))) (sSetI 7 (eCall F_law_of [] (aCons (eV 0) (aCons (eV 1) aNil))) (eUn fNeg (eC (.int 1)))) sNext)
  (sSeq (sIf (mAnd (tOfE (eOp fEqS (eV 4) (eC (.int 3)))) (tOfE (eOp fGt (eV 3) (eC (.int 2))))) (sSetI 7 (eCall F_law_of [] (aCons (eV 0) (aCons (eV 1) aNil))) (eC (.int 0))) sNext)
  (sRet (eCB fTuple (aCons (eV 7) aNil)))))))))
noncomputable def F_law_word : FV := mDef 3 9 m_law_word
noncomputable def m_law_winds : MS := (sRet (eF (fLc (cmI (iRg2 (aCons (eC (.int 1)) (aCons (eV 1) aNil))) [2] (setD 2) (tOfE (eOp fEqS (eOp fSubs (eV 0) (eOp fSub (eV 2) (eC (.int 1)))) (eOp fSubs (eV 0) (eOp fSub (eV 1) (eC (.int 1)))))) (mLc (eV 2))))))
noncomputable def F_law_winds : FV := mDef 2 3 m_law_winds
end Wo
namespace Vm
open PySem PySem.W PySem.Spec PyProof.Rows L2 Gk
theorem frzT2 {X : Cx} {pins : List (Addr × Obj)} {σ : L2.St} {H : Hp} {s : Shared} {d : Addr} {o : Obj} {kvs : List (List Key × V)} (I : Inv X pins σ H s) (h : H d = some (.frz o (.dT kvs))) :
    (d == sysModules) = false ∧ s.heap.get? d = some o ∧ ∃ (es : Array DictEntry) (ep : Nat), o.data = .dict es ep ∧ s.heap.DictRaw d es ep ∧ es.size = kvs.length ∧
      ∀ (i : Nat) (k : List Key) (v : V), kvs[i]? = some (k, v) → ∃ (en : DictEntry) (q : Addr), es[i]? = some en ∧ en.key = .ref q ∧ H q = some (.tup (k.map kV)) ∧ RelV v en.val := by
  obtain ⟨hd, z, hs, xs, pr, o', es, ep, ho, hx, hdt, he, hn⟩ := I.hok d _ h
  rw [hd] at ho
  cases ho
  refine ⟨hs, hd, es, ep, hdt, ⟨o, hd, hx, hdt⟩, ?_, fun i k v e => ?_⟩
  · have l1 : es.size = xs.length := size_of_entries he
    have l2 : kvs.length = xs.length := Paired.length pr
    omega
  · obtain ⟨b, hb, e1, e2, e3⟩ := paired_get pr e
    have q := entry_at he i
    rw [hb] at q
    exact ⟨_, b.2.1, q, rfl, e2, e3⟩
/-- the pairs of a dict with tuple keys, each a new tuple -/
def Itit (d : Addr) (o : Obj) (kvs : List (List Key × V)) : It :=
  ⟨fun i H => H d = some (.frz o (.dT kvs)) ∧ i < kvs.length, fun i H x H' => ∃ T k v q, kvs[i]? = some (k, v) ∧ x = .ref T ∧ H T = none ∧ H q = some (.tup (k.map kV)) ∧ H' = upd H T (.tup [.ref q, v]), fun i H => H d = some (.frz o (.dT kvs)) ∧ kvs.length ≤ i⟩
theorem turn_itemsT {P : Program} {w : World} {K : PySem.W.Frag} {d : Addr} {o : Obj} {es : Array DictEntry} {ep : Nat} {kvs : List (List Key × V)} {elts : List Expr} {kk : Nat} {tpos : Pos} (it : Addr) (hod : o.data = .dict es ep) (hes : es.size = kvs.length) :
    Turn P w K (.Tuple elts kk tpos) (Itit d o kvs) [it] it (fun i h => ∃ ok ov, IsItemIter h it d i es.size ep ok ov) where
  mem := by simp
  obj := fun i h st b hb => by
    have e : b = it := by simpa using hb
    subst e
    obtain ⟨ok, ov, e⟩ := st
    exact ⟨_, e, fun v z => nomatch z⟩
  keep := fun i h h' st k => let ⟨ok, ov, e⟩ := st; ⟨ok, ov, k it (by simp) _ e⟩
  item := by
    intro X hP hw hK hc i pins s σ H E I hf st hg
    subst hP hw hK
    obtain ⟨hd, hi⟩ := hg
    obtain ⟨hs, hgd, es', ep', hdt, raw, hsz, ent⟩ := frzT2 I hd
    obtain ⟨rfl, rfl⟩ := dict_ep hod hdt
    obtain ⟨⟨k, v⟩, hkv⟩ : ∃ p, kvs[i]? = some p := ⟨kvs[i], List.getElem?_eq_getElem hi⟩
    obtain ⟨en, q, hen, hkey, hq, rv⟩ := ent i k v hkv
    obtain ⟨ok, ov, he⟩ := st
    have hlt : it < s.heap.objs.size := Heap.lt_size he
    have hie : i < es'.size := by rw [hsz]; exact hi
    have ek : es'[i] = en := by
      rw [Array.getElem?_eq_getElem hie] at hen
      exact Option.some.inj hen
    refine PySem.wpAny_pyNext_items_item_raw he raw hie fun h' ho hT hz hk => ?_
    rw [ek] at ho hT
    refine ⟨_, rfl, wpAny_letOwnedTupleGo_items (s := { s with heap := h' }) ho fun h'' he' sb => ?_⟩
    have hT2 : h''.get? s.heap.objs.size = some { cls := .type "tuple", data := .seq #[en.key, en.val] } := (sb.2 _ (Nat.ne_of_gt hlt)).trans hT
    have new : ObjOk X.prog X.w (upd H s.heap.objs.size (.tup [.ref q, v])) h'' s.heap.objs.size (.tup [.ref q, v]) :=
      ⟨by show 2 ≤ sizeLine; decide, [en.key, en.val], .cons (show RelV (.ref q) en.key by rw [hkey]; rfl) (.cons rv .nil), ⟨_, hT2, rfl, _, rfl⟩⟩
    have I1 : Inv X pins σ (upd H s.heap.objs.size (.tup [.ref q, v])) { s with heap := h'' } :=
      I.turnedNew (t' := s.toks) (ch := [it]) (fun b ob hb e => (sb.2 b (by simpa using hb)).trans (hk b ob (by simpa using hb) e)) hf (Nat.le_refl _) new
    refine ⟨.ref s.heap.objs.size, _, I1, rfl, ⟨_, k, v, q, hkv, rfl, I.hok.fresh (Nat.le_refl _), hq, rfl⟩, ⟨_, _, he'⟩, fun b hb => ?_⟩
    have e : b = it := by simpa using hb
    rw [e, upd_ne (Nat.ne_of_lt hlt)]
    exact (hf it (by simp)).1
  done := by
    intro X hP hw hK hc i pins s σ H E I hf st hg
    subst hP hw hK
    obtain ⟨hd, hi⟩ := hg
    obtain ⟨f0, f1, f2, f3, f4, f5⟩ := hf it (by simp)
    obtain ⟨hs, hgd, es', ep', hdt, raw, hsz, ent⟩ := frzT2 I hd
    obtain ⟨rfl, rfl⟩ := dict_ep hod hdt
    obtain ⟨ok, ov, he⟩ := st
    exact PySem.wpAny_pyNext_items_end_raw (I.ok.hd hc) he raw (by omega) fun h' eb => ⟨rfl, I.turned (t' := s.toks) (fun b ob hb e => eb b ob hb e) f0 f1 f3 f4 f5⟩
  self := fun A i s Q E st h => let ⟨_, _, e⟩ := st; PySem.W.kcp_self e h
def iItemsT (td : TE) : TI := fun σ H R => td σ H fun x H1 => ∃ d o kvs, x = .ref d ∧ H1 d = some (.frz o (.dT kvs)) ∧ R (Itit d o kvs) H1
theorem pi_itemsT {X : Cx} {e : Expr} {td : TE} {apos cpos : Pos} {elts : List Expr} {kk : Nat} {tpos : Pos} (he : PE X e td) (hbase : attributeBase e "items" X.env (eval e X.env) = eval e X.env := by rfl) (hline : (apos.endLine == cpos.line) = true := by rfl) :
    PI X (.Tuple elts kk tpos) (.Call (.Attribute e "items" apos) [] [] cpos) (iItemsT td) := by
  refine ⟨fun pins s σ H R I h => ?_⟩
  refine wpAny_Call_method (T := "dict") (id := "dict.items") hbase rfl hline F.plainAttrs_dict F.slot_dict_items F.type_dict_items (thn (he.run pins s σ H _ I h) fun u s1 ⟨x, H1, I1, rx, d, o, kvs, ex, hd, q⟩ => ?_)
  subst ex
  obtain rfl : u = Value.ref d := rx
  obtain ⟨hs, hgd, es, ep, hdt, raw, hsz, ent⟩ := frzT2 I1 hd
  obtain ⟨od, hod, hcd, hdd⟩ := id raw
  refine ⟨raw.typeIs, ?_, ?_⟩
  · exact fun a e => by cases e; exact ⟨od, hod, hcd.2.1⟩
  have I2 : Inv X pins σ H1 { s1 with heap := s1.heap.push { cls := .type "dict_items", data := .fields #[.ref d] } } := I1.kept (t' := s1.toks) fun b ob q => Heap.get?_push_of_some _ q
  have fin : wpAny (model X.prog X.w) X.A (pyIter (.ref s1.heap.objs.size)) (PIE X pins σ (.Tuple elts kk tpos) R) X.xe { s1 with heap := s1.heap.push { cls := .type "dict_items", data := .fields #[.ref d] } } := by
    refine PySem.wpAny_pyIter_items_raw (d := d) ⟨_, Heap.get?_push_size _ rfl, rfl, rfl⟩ (raw.push _) (pi_one (tk := s1.toks) I2 _ (turn_itemsT _ hdt hsz) ⟨.none, .none, ?_⟩ q)
    exact Heap.get?_push_size _ rfl
  show wpAny _ _ (callWith cpos (.builtin "dict.items") [.ref d] [] []) _ X.xe s1
  exact method_meetsIn F.slot_dict_items F.entry_dict_items rfl (PySem.evalArgs_none ⟨rfl, raw.typeIs, F.args_dict_items_1 _, _, PySem.meets_dict_items_raw d hs, ⟨es, ep, raw⟩, fin⟩)
/-- the pairs of a dict as data -/
def itemsOf : Da → Option (List Da)
  | .dk kvs => some (kvs.map fun kv => .tuple [kD kv.1, kv.2])
  | .dt kvs => some (kvs.map fun kv => .tuple [.tuple (kv.1.map kD), kv.2])
  | _ => none
def iItm (ma : ME) : MI := fun α => (ma α).bind fun l => (own l.2 l.1).bind fun x => (itemsOf x).bind fun ks => some ((ks, []), l.2)
section
variable {K : PySem.W.Frag} {p : List Addr} {H : Hp} {σ : L2.St} {α : AS}
theorem iti_ok {d : Addr} {od : Obj} {kvs : List (Key × V)} {ds : List (Key × Da)} (hd : d ∉ p) (ho : H d = some (.frz od (.dK kvs))) (dz : DzK K p H kvs ds) : ItR K p H σ α (Iti d od kvs) (ds.map fun kv => .tuple [kD kv.1, kv.2]) [] := ⟨fun p1 H1 σ1 α1 A1 R1 t _ => by
  have h1 := t.fz d od _ hd ho
  refine ⟨fun n x hx => ?_, h1, by rw [List.length_map, ← dz.length]; exact Nat.le_refl _⟩
  have hn : n < kvs.length := by have := getElem?_lt hx; rw [List.length_map, ← dz.length] at this; exact this
  refine ⟨⟨h1, hn⟩, fun v H2 z => ?_⟩
  obtain ⟨T, k, w, e1, rfl, hT, rfl⟩ := z
  obtain ⟨d', e2, ok, dv⟩ := dz.at e1
  rw [List.getElem?_map, e2] at hx
  cases hx
  have s := same_new (o := .tup [kV k, w]) hT
  exact ⟨s, .tup upd_same (by show 2 ≤ LIM; decide) (.cons (key_dz ok) (.cons ((dv.tr t).tr (tr_same s)) .nil))⟩⟩
theorem itit_ok {d : Addr} {od : Obj} {kvs : List (List Key × V)} {ds : List (List Key × Da)} (hd : d ∉ p) (ho : H d = some (.frz od (.dT kvs))) (dz : DzT K p H kvs ds) : ItR K p H σ α (Itit d od kvs) (ds.map fun kv => .tuple [.tuple (kv.1.map kD), kv.2]) [] := ⟨fun p1 H1 σ1 α1 A1 R1 t _ => by
  have h1 := t.fz d od _ hd ho
  refine ⟨fun n x hx => ?_, h1, by rw [List.length_map, ← dz.length]; exact Nat.le_refl _⟩
  have hn : n < kvs.length := by have := getElem?_lt hx; rw [List.length_map, ← dz.length] at this; exact this
  refine ⟨⟨h1, hn⟩, fun v H2 z => ?_⟩
  obtain ⟨T, k, w, q, e1, rfl, hT, hq, rfl⟩ := z
  obtain ⟨d', e2, ok, dv⟩ := dz.at e1
  rw [List.getElem?_map, e2] at hx
  cases hx
  have s := same_new (o := .tup [.ref q, w]) hT
  exact ⟨s, .tup upd_same (by show 2 ≤ LIM; decide) (.cons (.tup (s q _ hq) (by rw [List.length_map]; exact ok.2) (keys_dz ok.1)) (.cons ((dv.tr t).tr (tr_same s)) .nil))⟩⟩
def iItA (td : TE) : TI := iOr (iItems (tLkA td)) (iItemsT (tLkA td))
theorem pi_itemsA {X : Cx} {e : Expr} {td : TE} {apos cpos : Pos} {elts : List Expr} {kk : Nat} {tpos : Pos} (he : PE X e td) (hbase : attributeBase e "items" X.env (eval e X.env) = eval e X.env := by rfl) (hline : (apos.endLine == cpos.line) = true := by rfl) :
    PI X (.Tuple elts kk tpos) (.Call (.Attribute e "items" apos) [] [] cpos) (iItA td) := pi_or (pi_items (pe_lkA he) hbase hline) (pi_itemsT (pe_lkA he) hbase hline)
theorem ref_iItm {td : TE} {ma : ME} (ha : RefE K td ma) : RefI K (iItA td) (iItm ma) := ⟨fun p H σ α A x α' Rr R e h => by
  simp only [iItm, Option.bind_eq_some_iff] at e
  obtain ⟨⟨l, α1⟩, e1, y, e2, ks, e3, e4⟩ := e
  cases e4
  cases y with
  | dk ds0 =>
    cases e3
    refine .inl (ha.go p H σ α A l α1 _ R e1 fun p1 H1 A1 v R1 S1 q1 => ?_)
    have dz := own_dz R1 q1 e2
    cases dz with
    | dk n r hl ds =>
      rcases r with r | ⟨od, r⟩
      · left
        refine ⟨_, _, rfl, r, trivial, fun od => ⟨_, od, _, rfl, upd_same, ?_⟩⟩
        obtain ⟨R2, S2, t⟩ := rel_lockD (od := od) R1 n r rfl
        exact h p1 _ A1 _ R2 (S1.trans R S2) (iti_ok n upd_same (ds.tr t)) lockable_nil
      · right
        exact ⟨_, od, _, rfl, r, h p1 H1 A1 _ R1 S1 (iti_ok n r ds) lockable_nil⟩
  | dt ds0 =>
    cases e3
    refine .inr (ha.go p H σ α A l α1 _ R e1 fun p1 H1 A1 v R1 S1 q1 => ?_)
    have dz := own_dz R1 q1 e2
    cases dz with
    | dt n r hl ds =>
      rcases r with r | ⟨od, r⟩
      · left
        refine ⟨_, _, rfl, r, trivial, fun od => ⟨_, od, _, rfl, upd_same, ?_⟩⟩
        obtain ⟨R2, S2, t⟩ := rel_lockD (od := od) R1 n r rfl
        exact h p1 _ A1 _ R2 (S1.trans R S2) (itit_ok n upd_same (ds.tr t)) lockable_nil
      · right
        exact ⟨_, od, _, rfl, r, h p1 H1 A1 _ R1 S1 (itit_ok n r ds) lockable_nil⟩
  | _ => cases e3⟩
end
end Vm
namespace Vm
open PySem PySem.Spec PyProof.Rows L2 Gk
def sDead : MS := fun _ => none
theorem ref_dead {K : PySem.W.Frag} : RefS K (fun _ _ _ => False) sDead := ⟨fun p H σ α A o D R e h => by cases e⟩
end Vm
namespace Wo
open PySem PySem.Spec PyProof.Rows L2 Gk Vm
noncomputable def m_is_place : MS := (sRet (eAnd (eCall F_is_whole [] (aCons (eV 1) aNil)) (eChain fLe fLe (eC (.int 0)) (eV 1) (eCB fLenB (aCons (eV 0) aNil)))))
noncomputable def F_is_place : FV := mDef 2 2 m_is_place
noncomputable def m_check_place : MS := (sIf (mNot (mTru (eCall F_is_place [] (aCons (eV 0) (aCons (eV 1) aNil))))) sDead sNext)
noncomputable def F_check_place : FV := mDef 2 2 m_check_place
noncomputable def m_backs : MS := (sSeq (sDrop (eCall F_check_place [] (aCons (eV 0) (aCons (eV 1) aNil))))
  (sRet (eCB fTuple (aCons (eF (fLc (cmI (iRg2 (aCons (eC (.int 1)) (aCons (eV 1) aNil))) [2] (setD 2) (tOfE (eOp fEqS (eOp fSubs (eV 0) (eOp fSub (eV 2) (eC (.int 1)))) (eOp fSubs (eV 0) (eOp fSub (eV 1) (eC (.int 1)))))) (mLc (eV 2))))) aNil))))
noncomputable def F_backs : FV := mDef 2 3 m_backs
end Wo
namespace Vm
open PySem PySem.Spec PyProof.Rows L2 Gk
end Vm
namespace Wo
open PySem PySem.Spec PyProof.Rows L2 Gk Vm
noncomputable def m_here_or_back : MS := (sRet (eOp fAdd (eCall F_backs [] (aCons (eV 0) (aCons (eV 1) aNil))) (eTup (aCons (eV 1) aNil))))
noncomputable def F_here_or_back : FV := mDef 2 2 m_here_or_back
noncomputable def m_going_places : MS := (sRet (eCB fTuple (aCons (eF (fLc (cmI (iAny (eCall F_here_or_back [] (aCons (eV 0) (aCons (eV 1) aNil)))) [2] (setD 2) (tOfE (eOp fLtA (eV 2) (eCB fLenB (aCons (eV 0) aNil)))) (mLc (eV 2))))) aNil)))
noncomputable def F_going_places : FV := mDef 2 3 m_going_places
end Wo
namespace Vm
open PySem PySem.Spec PyProof.Rows L2 Gk
end Vm
namespace Vm
open PySem PySem.Spec PyProof.Rows L2 Gk
end Vm
namespace Vm
open PySem PySem.Spec PyProof.Rows L2 Gk
end Vm
namespace Vm
open PySem PySem.Spec PyProof.Rows L2 Gk
section
variable {K : PySem.W.Frag} {p p' p2 : List Addr} {H H' H2 : Hp} {σ σ' σ2 : L2.St} {α α' α2 α0 : AS} {A A' A2 : FT}
def sAug (i : Nat) (f : Da → Da → Option Da) (ma : ME) : MS := fun α => (own α (.s i)).bind fun a => (ma α).bind fun x => (res x.2 x.1).bind fun b => (f a b).bind fun c => (setD i c x.2).bind fun β => some (.nx β)
theorem ref_aug {i : Nat} {r : R2} {f : Da → Da → Option Da} {ta : TE} {ma : ME} (hf : RefR2 K r f) (ha : RefE K ta ma) : RefS K (tAug i ta r) (sAug i f ma) := ⟨fun p H σ α A o D R e h => by
  simp only [sAug, Option.bind_eq_some_iff] at e
  obtain ⟨a, e0, ⟨l, α1⟩, e1, b, e2, c, e3, β, e4, e5⟩ := e
  cases e5
  have e0' : (α[i]?).bind AV.get = some a := e0
  obtain ⟨q, hq, hg⟩ := Option.bind_eq_some_iff.mp e0'
  obtain ⟨x, hx⟩ := R.has hq (fun z => by subst z; cases hg)
  have dx := own_dz R (show LocR K p H σ x (.s i) from hx) e0
  refine ⟨x, hx, ?_⟩
  refine ha.go p H σ α A l α1 _ R e1 fun p1 H1 A1 y R1 S1 q1 => ?_
  refine hf p1 H1 x y a b c _ R1.al (.of (dx.tr (S1.tr R))) (res_vz R1 q1 e2) e3 fun z H2 s dz => ?_
  exact ref_gName.go p1 H2 σ α1 A1 z c β _ (R1.same s) dz e4 fun p2 H3 σ2 A2 R2 S2 => h p2 H3 σ2 A2 R2 ((S1.trans R (.same s)).trans R S2)⟩
theorem rr_subI : RefR2 K (ipI fun i j => i - j) (fI fun i j => i - j) := by
  intro p H x y a b c Q al ha hb e q
  unfold fI at e
  split at e
  · cases e; cases vz_int ha; cases vz_int hb
    exact ⟨_, _, rfl, rfl, q _ H (Same.refl H) (.int _)⟩
  · cases e
end
end Vm
namespace Vm
open PySem PySem.Spec PyProof.Rows L2 Gk
section
variable {K : PySem.W.Frag} {p p' p2 : List Addr} {H H' H2 : Hp} {σ σ' σ2 : L2.St} {α α' α2 α0 : AS} {A A' A2 : FT}
def intsU : List Da → Option (List Int)
  | [] => some []
  | .int i :: r => (intsU r).bind fun js => some (i :: js)
  | _ => none
theorem intsU_eq : ∀ {xs : List Da} {js : List Int}, intsU xs = some js → xs = js.map Da.int
  | [], _, e => by cases e; rfl
  | x :: r, js, e => by
    cases x with
    | int i =>
      simp only [intsU, Option.bind_eq_some_iff] at e
      obtain ⟨js', e1, e2⟩ := e
      cases e2
      rw [intsU_eq e1]; rfl
    | _ => cases e
theorem dz_ints : ∀ {js : List Int} {vs : List V}, DzA K p H vs (js.map Da.int) → vs = js.map V.int
  | [], _, .nil => rfl
  | j :: js, _, .cons (.int _) t => by rw [dz_ints t]; rfl
def fSum : List Da → Option Da
  | [.list xs] => (intsU xs).bind fun js => some (.int js.sum)
  | _ => none
theorem rr_sum : RefRA K (rSum K) fSum := fun p H xs as c Q al va e q => by
  unfold fSum at e
  split at e
  · obtain ⟨js, e1, e2⟩ := Option.bind_eq_some_iff.mp e
    cases e2
    obtain ⟨v, rfl, hv⟩ := vz1 va
    obtain ⟨a, vs, rfl, h1, h2, h3⟩ := vz_lst hv
    rw [intsU_eq e1] at h3
    rw [dz_ints h3] at h1
    exact ⟨a, js, rfl, .of h1, q _ H (Same.refl H) (.int _)⟩
  · cases e
end
end Vm
namespace Vm
open PySem PySem.Spec PyProof.Rows L2 Gk
section
variable {K : PySem.W.Frag} {p p' p2 : List Addr} {H H' H2 : Hp} {σ σ' σ2 : L2.St} {α α' α2 α0 : AS} {A A' A2 : FT}
abbrev MM := AS → Option (List R1 × AS)
theorem NewR.keep {a : Addr} {as : List Addr} {r : Nw} (t : Tr p H p' H') (k : ∀ c ∈ a :: as, ∀ o, H c = some o → H' c = some o) (h : NewR K p H a as r) : NewR K p' H' a as r := by
  cases r with
  | r x => exact ⟨h.1, h.2.tr t fun o e => k a (List.mem_cons_self ..) o e⟩
  | n x => exact Nest.tr t k h
theorem ResL.keep (t : Tr p H p' H') : ∀ {vs : List V} {rs : List R1} {as : List Addr}, (∀ c ∈ as, ∀ o, H c = some o → H' c = some o) → ResL K p H vs rs as → ResL K p' H' vs rs as
  | _, _, _, k, .nil => .nil
  | _, _, _, k, .d h r => .d (h.tr t) (ResL.keep t k r)
  | _, _, _, k, .w h r => .w (h.keep t fun c m => k c (List.mem_append_left _ m)) (ResL.keep t (fun c m => k c (List.mem_append_right _ m)) r)
/-- what stands new stays so, while something else is told -/
theorem Fresh.step {as : List Addr} {H0 : Hp} (R : Rel K p H σ α A) (S : Step p H σ α A p' H' σ' α' A') (f : Fresh p H0 A as) : Fresh p' H0 A' as :=
  ⟨fun b m => by
      rcases S.mono b (f.inp b m) with h | ⟨i, h⟩
      · exact h
      · exact (f.noA b m i h).elim,
    f.non, fun b m i z => by
      rcases S.new i b z with h | h
      · exact f.noA b m i h
      · exact R.al b (f.inp b m) h, f.nd⟩
theorem Fresh.kept {as : List Addr} {H0 : Hp} (S : Step p H σ α A p' H' σ' α' A') (f : Fresh p H0 A as) (hs : ∀ c ∈ as, ∀ u, H c = some u → HO.isTbl u = false) : ∀ c ∈ as, ∀ o, H c = some o → H' c = some o := fun c m o e => (S.keep c o (hs c m o e) e fun i => f.noA c m i).exp (f.inp c m)
end
end Vm
namespace Vm
end Vm
namespace Wo
open PySem PySem.Spec PyProof.Rows L2 Gk Vm
end Wo
namespace Vm
open PySem PySem.Spec PyProof.Rows L2 Gk
end Vm
namespace Vm
open PySem PySem.Spec PyProof.Rows L2 Gk
end Vm
namespace Vm
open PySem PySem.Spec PyProof.Rows L2 Gk
end Vm
namespace Vm
open PySem PySem.Spec PyProof.Rows L2 Gk
end Vm
namespace Vm
open PySem PySem.Spec PyProof.Rows L2 Gk RT
section
variable {K : PySem.W.Frag} {p p' p2 : List Addr} {H H' H2 : Hp} {σ σ' σ2 : L2.St} {α α' α2 α0 : AS} {A A' A2 : FT}
/-- for x in reversed(t) -/
def iRv (ma : ME) : MI := fun α => (ma α).bind fun l => (own l.2 l.1).bind fun x => match x with
  | .tuple xs => some ((xs.reverse, []), l.2)
  | .list xs => some ((xs.reverse, []), l.2)
  | _ => none
theorem itv_ok {a : Addr} {vs : List V} {xs : List Da} (st : ∀ p1 H1 σ1 α1 A1, Rel K p1 H1 σ1 α1 A1 → Tr p H p1 H1 → ∃ vs', H1 a = some (.lst vs') ∧ vs'.length = vs.length ∧ DzA K p1 H1 vs' xs) (hl : vs.length = xs.length) : ItR K p H σ α (Itv K a vs.length) xs.reverse [] := ⟨fun p2 H2 σ2 α2 A2 R2 t _ => by
  obtain ⟨ws, hw, hwl, ds⟩ := st p2 H2 σ2 α2 A2 R2 t
  refine ⟨fun n x hx => ?_, by rw [List.length_reverse, hl]; exact Nat.le_refl _⟩
  have hn : n < xs.length := by have := getElem?_lt hx; rwa [List.length_reverse] at this
  rw [List.getElem?_reverse hn, ← hl] at hx
  obtain ⟨y, hy, dy⟩ := ds.get hx
  refine ⟨⟨by omega, ws, y, .of hw, hy⟩, fun v H3 z => ?_⟩
  obtain ⟨rfl, z⟩ := z
  have := z ws (.of hw)
  rw [hy] at this
  cases this
  exact ⟨Same.refl _, dy⟩⟩
theorem itvt_ok {a : Addr} {vs : List V} {xs : List Da} (st : ∀ p1 H1 σ1 α1 A1, Rel K p1 H1 σ1 α1 A1 → Tr p H p1 H1 → ∃ vs', H1 a = some (.tup vs') ∧ vs'.length = vs.length ∧ DzA K p1 H1 vs' xs) (hl : vs.length = xs.length) : ItR K p H σ α (ItvT K a vs.length) xs.reverse [] := ⟨fun p2 H2 σ2 α2 A2 R2 t _ => by
  obtain ⟨ws, hw, hwl, ds⟩ := st p2 H2 σ2 α2 A2 R2 t
  refine ⟨fun n x hx => ?_, by rw [List.length_reverse, hl]; exact Nat.le_refl _⟩
  have hn : n < xs.length := by have := getElem?_lt hx; rwa [List.length_reverse] at this
  rw [List.getElem?_reverse hn, ← hl] at hx
  obtain ⟨y, hy, dy⟩ := ds.get hx
  refine ⟨⟨by omega, ws, y, .of hw, hy⟩, fun v H3 z => ?_⟩
  obtain ⟨rfl, z⟩ := z
  have := z ws (.of hw)
  rw [hy] at this
  cases this
  exact ⟨Same.refl _, dy⟩⟩
def iRvT (K : PySem.W.Frag) (te : TE) : TI := fun σ H R => te σ H fun v H1 => ∃ (a : Addr) (xs : List V), v = .ref a ∧ ((SqL K H1 a xs ∧ R (Itv K a xs.length) H1) ∨ (SqT K H1 a xs ∧ R (ItvT K a xs.length) H1))
theorem pi_rv {X : Cx} {tg e : Expr} {te : TE} {p pos : Pos} (hK : X.K = K) (hg : Gl X "reversed") (hm : X.mg "reversed" = none) (he : PE X e te) (hs : starEach [e] X.env = (false, eval e X.env) :: starEach [] X.env := by rfl) : PI X tg (.Call (.Name "reversed" p) [e] [] pos) (iRvT K te) := by
  subst hK
  exact RT.pi_revA hg hm he hs
theorem ref_iRev {t : TE} {ma : ME} (ha : RefE K t ma) : RefI K (iRvT K t) (iRv ma) := ⟨fun p H σ α A x α' Rr R e h => by
  simp only [iRv, Option.bind_eq_some_iff] at e
  obtain ⟨⟨l, α1⟩, e1, y, e2, e3⟩ := e
  refine ha.go p H σ α A l α1 _ R e1 fun p1 H1 A1 v R1 S1 q1 => ?_
  have dz := own_dz R1 q1 e2
  cases dz with
  | lst n r hl ds =>
    cases e3
    exact ⟨_, _, rfl, .inl ⟨.of r, h p1 H1 A1 _ R1 S1 (itv_ok (fun p2 H2 σ2 α2 A2 R2 t => ⟨_, t.ls _ _ n r, rfl, ds.tr t⟩) ds.length) lockable_nil⟩⟩
  | tup r hl ds =>
    cases e3
    exact ⟨_, _, rfl, .inr ⟨.of r, h p1 H1 A1 _ R1 S1 (itvt_ok (fun p2 H2 σ2 α2 A2 R2 t => ⟨_, t.tp _ _ r, rfl, ds.tr t⟩) ds.length) lockable_nil⟩⟩
  | _ => cases e3⟩
end
end Vm
namespace Vm
open PySem PySem.Spec PyProof.Rows L2 Gk RT
section
variable {K : PySem.W.Frag} {p : List Addr} {H : Hp}
/-- list * int -/
def fRep : Da → Da → Option Da
  | .list xs, .int k => if 0 ≤ k ∧ k ≤ 1000 ∧ xs.length ≤ 1000 then some (.list (List.replicate k.toNat xs).flatten) else none
  | _, _ => none
theorem dzA_rep {vs : List V} {ds : List Da} (h : DzA K p H vs ds) : ∀ k : Nat, DzA K p H (List.replicate k vs).flatten (List.replicate k ds).flatten
  | 0 => .nil
  | k + 1 => by
    rw [List.replicate_succ, List.replicate_succ, List.flatten_cons, List.flatten_cons]
    exact h.append (dzA_rep h k)
theorem flat_rep {τ : Type} (xs : List τ) : ∀ k : Nat, (List.replicate k xs).flatten.length = k * xs.length
  | 0 => by simp
  | k + 1 => by rw [List.replicate_succ, List.flatten_cons, List.length_append, flat_rep xs k, Nat.succ_mul, Nat.add_comm]
theorem rr_rep : RefR2 K rRep fRep := by
  intro p H x y a b c Q al ha hb e q
  unfold fRep at e
  split at e
  · split at e
    · rename_i xs k hc
      cases e
      cases vz_int hb
      obtain ⟨l, vs, rfl, h1, h2, h3⟩ := vz_lst ha
      have hl : vs.length * k.toNat ≤ 1000 * 1000 := Nat.mul_le_mul (by rw [h3.length]; exact hc.2.2) (by omega)
      refine ⟨l, k, vs, rfl, rfl, h1, by omega, by omega, line_of (show vs.length * k.toNat ≤ LIM from hl), fun u hu => ?_⟩
      have s := same_new (o := .lst (List.replicate k.toNat vs).flatten) hu
      exact q _ _ s (.lst (fun m => al u m hu) upd_same (by rw [flat_rep, Nat.mul_comm]; exact hl) ((dzA_rep h3 k.toNat).tr (tr_same s)))
    · cases e
  · cases e
end
end Vm
namespace Vm
open PySem PySem.Spec PyProof.Rows L2 Gk RT
end Vm
namespace Gk
open PySem PySem.Spec PyProof.Rows L2
end Gk
namespace Vm
open PySem PySem.Spec PyProof.Rows L2 Gk
end Vm
namespace Vm
open PySem PySem.Spec PyProof.Rows L2 Gk
/-- at the interpreter's own place of its modules something stands -/
def SysK (K : PySem.W.Frag) : Prop := ∃ o, K.lookup sysModules = some o
def keyPy : Key → PyData
  | .inl i => .int i
  | .inr s => .str s
mutual
def toPyY : Da → Option PyData
  | .none => some .none
  | .bool b => some (.bool b)
  | .int i => some (.int i)
  | .str s => if s.length ≤ 100000 then some (.str s) else none
  | .list xs => if xs.length ≤ 100000 then (toPysY xs).map .list else none
  | .tuple xs => if xs.length ≤ 100000 then (toPysY xs).map .tuple else none
  | .dk kvs => (toPysZ kvs).map .dict
  | .dt _ => none
def toPysY : List Da → Option (List PyData)
  | [] => some []
  | x :: xs => (toPyY x).bind fun d => (toPysY xs).bind fun ds => some (d :: ds)
def toPysZ : List (Key × Da) → Option (List (PyData × PyData))
  | [] => some []
  | (k, x) :: xs => (toPyY x).bind fun d => (toPysZ xs).bind fun ds => some ((keyPy k, d) :: ds)
end
end Vm
namespace Vm
open PySem PySem.Spec PyProof.Rows L2 Gk RT
end Vm
namespace Vm
open PySem PySem.Spec PyProof.Rows L2 Gk
theorem wp_asg {m : ME} {g : MG} {α : AS} {Q : Out → Prop} : Wp (sAsg m g α) Q = Wp (m α) fun x => Wp (own x.2 x.1) fun y => Wp (g y x.2) fun β => Q (.nx β) := by
  unfold sAsg; simp only [wp_bind, wp_some]
theorem wp_eF {m : MF} {α : AS} {Q : Lc × AS → Prop} : Wp (eF m α) Q = Wp (m α) fun x => Q (.d x.1.da, x.2) := by
  unfold eF; simp only [wp_bind, wp_some]
theorem wp_join {a : Str} {mb : ME} {α : AS} {Q : Lc × AS → Prop} : Wp (eJoin (eC (.str a)) mb α) Q = Wp (mb α) fun y => Wp (res y.2 y.1) fun b => Wp (fJoin (.str a) b) fun c => Q (.d c, y.2) := by
  unfold eJoin eC; simp only [wp_bind, wp_some, res, Option.bind_some]
theorem wp_seq {m n : MS} {α : AS} {Q : Out → Prop} : Wp (sSeq m n α) Q = Wp (m α) fun o => match o with | .nx β => Wp (n β) Q | o => Q o := by
  unfold sSeq
  rw [wp_bind]
  congr 1
  funext o
  cases o <;> simp [wp_some]
theorem wp_ret {m : ME} {α : AS} {Q : Out → Prop} : Wp (sRet m α) Q = Wp (m α) fun x => Q (.rt (.one x.1) x.2) := by
  unfold sRet; simp only [wp_bind, wp_some]
theorem wp_aCons {m : ME} {n : MA} {α : AS} {Q : List Lc × AS → Prop} : Wp (aCons m n α) Q = Wp (m α) fun x => Wp (n x.2) fun y => Q (x.1 :: y.1, y.2) := by
  unfold aCons; simp only [wp_bind, wp_some]
theorem wp_aNil {α : AS} {Q : List Lc × AS → Prop} : Wp (aNil α) Q = Q ([], α) := by unfold aNil; rw [wp_some]
theorem wp_eCB {f : List Da → Option Da} {m : MA} {α : AS} {Q : Lc × AS → Prop} : Wp (eCB f m α) Q = Wp (m α) fun x => Wp (resA x.2 x.1) fun a => Wp (f a) fun c => Q (.d c, x.2) := by
  unfold eCB; simp only [wp_bind, wp_some]
theorem wp_sort {m : MA} {α : AS} {Q : Nw × AS → Prop} : Wp (fSortM m α) Q = Wp (m α) fun x => Wp (resA x.2 x.1) fun a => match a with
    | [.list xs] => Wp (sortD xs) fun ys => Q (.r (.list ys), x.2)
    | _ => False := by
  unfold fSortM
  simp only [wp_bind]
  congr 1
  funext x
  congr 1
  funext a
  split <;> simp [wp_bind, wp_some, wp_none]
theorem toPys_strs : ∀ zs : List Str, toPys (zs.map Da.str) = some (zs.map PyData.str)
  | [] => rfl
  | z :: zs => by simp [toPys, toPy, toPys_strs zs]
theorem strsD_map : ∀ zs : List Str, strsD (zs.map Da.str) = some zs
  | [] => rfl
  | z :: zs => by simp [strsD, strsD_map zs]
/-- texts, sorted -/
theorem sort_strs (zs : List Str) : Wp (sortD (zs.map Da.str)) fun ys => ∃ ws : List Str, ys = ws.map Da.str ∧ ws.Perm zs := by
  have hc : PySem.W.AllAlike (zs.map PyData.str) ∧ PySem.W.Sortable (zs.map PyData.str) ∧ ∀ d ∈ zs.map PyData.str, d.depth ≤ 64 := by
    refine ⟨PySem.W.AllAlike.of fun b b' => rfl, PySem.W.Sortable.others fun b => ⟨fun z => PyData.noConfusion z, fun xs z => PyData.noConfusion z⟩, fun d hd => ?_⟩
    obtain ⟨z, _, rfl⟩ := List.mem_map.mp hd
    exact Nat.zero_le _
  have e : (zs.map Da.str).zip (zs.map PyData.str) = zs.map fun z => (Da.str z, PyData.str z) := by
    clear hc
    induction zs with
    | nil => rfl
    | cons z zs ih => rw [List.map_cons, List.map_cons, List.zip_cons_cons, ih, List.map_cons]
  refine ⟨_, ?_, (zs.mergeSort fun a b => PySem.W.dataLe false (fun t : Da × PyData => t.2) (Da.str a, PyData.str a) (Da.str b, PyData.str b)), rfl, List.mergeSort_perm ..⟩
  unfold sortD
  rw [toPys_strs, Option.bind_some, if_pos hc, e, merge_map, List.map_map]
  rfl
theorem rg1_go {ma : MA} {α α1 : AS} {ls : List Lc} {k : Nat} (e : ma α = some (ls, α1)) (e2 : resA α1 ls = some [.int (k : Int)]) (hk : k ≤ 1000000) : iRg1 ma α = some ((rgN k, []), α1) := by
  unfold iRg1
  rw [e, Option.bind_some]
  dsimp only
  rw [e2, Option.bind_some]
  dsimp only
  rw [if_pos ⟨by omega, by omega⟩]
  rfl
theorem eqS_int (a b : Int) : fEqS (.int a) (.int b) = some (.bool (a == b)) := rfl
theorem all_of_paired {τ υ : Type} {P : υ → Prop} : ∀ {xs : List τ} {ys : List υ}, Paired (fun _ y => P y) xs ys → ∀ y ∈ ys, P y
  | _, _, .nil, y, m => (List.not_mem_nil m).elim
  | _, _, .cons h t, y, m => (List.mem_cons.mp m).elim (fun e => by rw [e]; exact h) (all_of_paired t y)
theorem strs_of {P : Str → Prop} : ∀ {ws : List Da}, (∀ y ∈ ws, ∃ x, y = .str x ∧ P x) → ∃ xs : List Str, ws = xs.map Da.str ∧ ∀ x ∈ xs, P x
  | [], _ => ⟨[], rfl, fun c m => (List.not_mem_nil m).elim⟩
  | y :: ws, h => by
    obtain ⟨cs, rfl, h4⟩ := strs_of (ws := ws) fun y m => h y (List.mem_cons_of_mem _ m)
    obtain ⟨c, rfl, h5⟩ := h y (List.mem_cons_self ..)
    exact ⟨c :: cs, rfl, fun d m => (List.mem_cons.mp m).elim (fun z => by rw [z]; exact h5) (h4 d)⟩
theorem sif_true {c : MT} {m n : MS} {α α1 : AS} {Q : Out → Prop} (e : c α = some (true, α1)) (h : Wp (m α1) Q) : Wp (sIf c m n α) Q := by
  unfold sIf; rw [wp_bind, e, wp_some]; exact h
theorem sif_false {c : MT} {m n : MS} {α α1 : AS} {Q : Out → Prop} (e : c α = some (false, α1)) (h : Wp (n α1) Q) : Wp (sIf c m n α) Q := by
  unfold sIf; rw [wp_bind, e, wp_some]; exact h
theorem wp_asgR {i : Nat} {m : MF} {α : AS} {Q : Out → Prop} : Wp (sAsgR i m α) Q = Wp (m α) fun x => Wp (setR i x.1 x.2) fun β => Q (.nx β) := by
  unfold sAsgR; simp only [wp_bind, wp_some]
theorem wp_next {α : AS} {Q : Out → Prop} : Wp (sNext α) Q = Q (.nx α) := by unfold sNext; rw [wp_some]
theorem setD_go {i : Nat} {x : Da} {α : AS} {q : AV} (h : α[i]? = some q) (hf : q.isFix = false) : setD i x α = some (α.set i (.d x)) := by
  unfold setD; rw [h]; simp [hf]
theorem setR_go {i : Nat} {x : Nw} {α : AS} {q : AV} (h : α[i]? = some q) (hf : q.isFix = false) : setR i x α = some (α.set i x.av) := by
  unfold setR; rw [h]; simp [hf]
theorem for_go {i : MI} {g : MG} {b : MS} {α α1 : AS} {xs : List Da} {Q : Out → Prop} (hi : i α = some ((xs, []), α1))
    (h : Wp (forL g b xs α1) fun o => match o with
      | .nx β => Q (.nx β)
      | .bk β => Q (.nx β)
      | .ct β => Q (.nx β)
      | .rt r β => Q (.rt r β)) : Wp (sForD i g b α) Q := by
  unfold sForD
  rw [wp_bind, hi, wp_some, wp_bind]
  dsimp only
  rw [lockA_nil]
  refine h.mono fun o ho => ?_
  rw [wp_some]
  cases o <;> simp only [Out.freed, freeA_nil] <;> exact ho
end Vm
namespace Vm
open PySem PySem.Spec PyProof.Rows L2 Gk
theorem wipe_one {α : AS} {v : Nat} {q : AV} (x : AV) (h : α[v]? = some q) : wipeA (α.set v x) [v] = α.set v .un := by
  unfold wipeA wipeA
  rw [List.set_set]
theorem wipe_one' {α : AS} {v : Nat} : wipeA α [v] = α.set v .un := rfl
theorem back_one {α : AS} {v : Nat} {q : AV} (h : α[v]? = some q) : backA α (α.set v .un) [v] = α := by
  unfold backA
  apply List.ext_getElem?
  intro i
  rw [List.getElem?_mapIdx, List.getElem?_set]
  by_cases e : v = i
  · subst e
    have hv : v < α.length := getElem?_lt h
    rw [if_pos rfl, if_pos hv, h]
    simp
  · rw [if_neg e]
    cases z : α[i]? with
    | none => rfl
    | some r => simp [Ne.symm e]
/-- the parts of a comprehension with one name -/
theorem cm_pure {β : Type} {v : Nat} {tt : MT} {u : AS → Option (List β × AS)} {α : AS} {p : Da → Bool} {f : Da → List β} (hv : α[v]? = some .un) : ∀ {xs : List Da},
    (∀ x ∈ xs, tt (α.set v (.d x)) = some (p x, α.set v (.d x))) → (∀ x ∈ xs, p x = true → u (α.set v (.d x)) = some (f x, α.set v (.d x))) →
    cmL [v] (setD v) tt u xs α = some ((xs.filter p).flatMap f, α)
  | [], _, _ => rfl
  | x :: xs, h1, h2 => by
    have ih := cm_pure (xs := xs) hv (fun y m => h1 y (List.mem_cons_of_mem _ m)) fun y m => h2 y (List.mem_cons_of_mem _ m)
    have w : wipeA (α.set v (.d x)) [v] = α := by
      rw [wipe_one _ hv]
      exact List.ext_getElem? fun i => by
        rw [List.getElem?_set]
        by_cases e : v = i
        · subst e; rw [if_pos rfl, if_pos (getElem?_lt hv), hv]
        · rw [if_neg e]
    unfold cmL
    rw [setD_go hv rfl, Option.bind_some, h1 x (List.mem_cons_self ..), Option.bind_some]
    dsimp only
    by_cases hp : p x = true
    · rw [if_pos hp, h2 x (List.mem_cons_self ..) hp, Option.bind_some]
      dsimp only
      rw [w, ih, Option.bind_some, List.filter_cons_of_pos hp, List.flatMap_cons]
    · rw [if_neg hp, w, ih, List.filter_cons_of_neg hp]
theorem set_un {α : AS} {v : Nat} {q : AV} (h : α[v]? = some q) : (α.set v .un)[v]? = some .un := by
  rw [List.getElem?_set_self (getElem?_lt h)]
theorem cmI_pure {β : Type} {i : MI} {v : Nat} {tt : MT} {u : AS → Option (List β × AS)} {α0 α : AS} {q : AV} {xs : List Da} {p : Da → Bool} {f : Da → List β} (hi : i α0 = some ((xs, []), α)) (hv : α[v]? = some q) (nr : q.isRoot = false)
    (h1 : ∀ x ∈ xs, tt (α.set v (.d x)) = some (p x, α.set v (.d x))) (h2 : ∀ x ∈ xs, p x = true → u (α.set v (.d x)) = some (f x, α.set v (.d x))) :
    cmI i [v] (setD v) tt u α0 = some ((xs.filter p).flatMap f, α) := by
  unfold cmI
  rw [hi, Option.bind_some]
  dsimp only
  rw [if_pos ⟨fun j m r e => by rw [List.mem_singleton.mp m, hv] at e; cases e; exact nr, fun j m => (List.not_mem_nil m).elim⟩, lockA_nil, wipe_one',
    cm_pure (p := p) (f := f) (set_un hv) (fun x m => by rw [List.set_set]; exact h1 x m) (fun x m hp => by rw [List.set_set]; exact h2 x m hp), Option.bind_some]
  dsimp only
  rw [freeA_nil, back_one hv]
theorem flat_ones {τ υ : Type} (f : τ → υ) : ∀ xs : List τ, (xs.flatMap fun x => [f x]) = xs.map f
  | [] => rfl
  | x :: xs => by rw [List.flatMap_cons, flat_ones f xs]; rfl
/-- a list comprehension with one name and a test -/
theorem lc_filt {i : MI} {v : Nat} {tt : MT} {me : ME} {α0 α : AS} {q : AV} {xs : List Da} {p : Da → Bool} {f : Da → Da} (hi : i α0 = some ((xs, []), α)) (hv : α[v]? = some q) (nr : q.isRoot = false) (hl : xs.length ≤ LIM)
    (h1 : ∀ x ∈ xs, tt (α.set v (.d x)) = some (p x, α.set v (.d x))) (h2 : ∀ x ∈ xs, p x = true → ∃ l, me (α.set v (.d x)) = some (l, α.set v (.d x)) ∧ own (α.set v (.d x)) l = some (f x)) :
    fLc (cmI i [v] (setD v) tt (mLc me)) α0 = some (.r (.list ((xs.filter p).map f)), α) := by
  unfold fLc
  rw [cmI_pure (p := p) (f := fun x => [f x]) hi hv nr h1 (fun x m hp => by
    obtain ⟨l, e1, e2⟩ := h2 x m hp
    unfold mLc
    rw [e1, Option.bind_some]
    dsimp only
    rw [e2, Option.bind_some]), Option.bind_some]
  dsimp only
  rw [flat_ones, if_pos]
  rw [List.length_map]
  exact Nat.le_trans (List.length_filter_le ..) hl
end Vm
namespace Vm
open PySem PySem.Spec PyProof.Rows L2 Gk
theorem putD0 {α : AS} {as' : List AV} {ls : List Lc} (hn : ls.filterMap (rootIx α) = []) : putBack α ls as' = α := by
  unfold putBack
  apply List.ext_getElem?
  intro k
  rw [List.getElem?_mapIdx]
  cases z : α[k]? with
  | none => rfl
  | some r =>
    show some (if r.isRoot = true then _ else _) = some r
    by_cases hr : r.isRoot = true
    · rw [if_pos hr]
      cases f : ls.findIdx? (isS k) with
      | none => rfl
      | some i =>
        have m := findIdx?_isS f
        have : k ∈ ls.filterMap (rootIx α) := List.mem_filterMap.mpr ⟨_, List.mem_of_getElem? m, by
          show (α[k]?).bind _ = _
          rw [z]
          simp [hr]⟩
        rw [hn] at this
        exact (List.not_mem_nil this).elim
    · rw [if_neg hr]
end Vm
namespace Vm
open PySem PySem.Spec PyProof.Rows L2 Gk
theorem def_go {np nn : Nat} {b : MS} {as as' α : AS} {l : Lc} {r : R1} (hl : as.length = np) (hb : b (startA nn as) = some (.rt (.one l) α)) (hr : resL1 α l = some r) (ha : backP as α = as') : mDef np nn b as = some (.one r, as') := by
  unfold mDef
  rw [if_pos hl, hb, Option.bind_some]
  dsimp only
  unfold resRL
  dsimp only
  rw [hr, Option.bind_some, Option.bind_some, ha]
def natsT (bs : List Nat) : Da := .tuple (bs.map fun b : Nat => .int (b : Int))
theorem paired_imp {τ υ : Type} {R S : τ → υ → Prop} (h : ∀ x y, R x y → S x y) : ∀ {xs : List τ} {ys : List υ}, Paired R xs ys → Paired S xs ys
  | _, _, .nil => .nil
  | _, _, .cons a t => .cons (h _ _ a) (paired_imp h t)
theorem list_go {i : Nat} {α : AS} {xs : List Da} (h : α[i]? = some (.d (.list xs))) : iAny (eV i) α = some ((xs, []), α) := by
  unfold iAny iLst eV
  simp [h]
theorem val_mem {κ τ : Type} [DecidableEq κ] {kvs : List (κ × τ)} {k : κ} {d : τ} (h : valA kvs k = some d) : ∃ kv ∈ kvs, kv.2 = d := by
  unfold valA at h
  obtain ⟨kv, h1, h2⟩ := Option.map_eq_some_iff.mp h
  exact ⟨kv, List.mem_of_find?_eq_some h1, h2⟩
theorem isi_go {T : String} {ma : ME} {α α1 : AS} {l : Lc} {x : Da} {b : Bool} (hm : ma α = some (l, α1)) (hr : res α1 l = some x) (hb : (tyN x).bind (fun t => isiB T t) = some b) : eIsi T ma α = some (.d (.bool b), α1) := by
  unfold eIsi
  rw [hm, Option.bind_some]
  dsimp only
  rw [hr, Option.bind_some]
  obtain ⟨t, e1, e2⟩ := Option.bind_eq_some_iff.mp hb
  rw [e1, Option.bind_some, e2, Option.bind_some]
theorem tof_go {ma : ME} {α α1 : AS} {b : Bool} (h : ma α = some (.d (.bool b), α1)) : tOfE ma α = some (b, α1) := by
  unfold tOfE
  rw [h, Option.bind_some]
  rfl
theorem and_go {ma mb : ME} {α α1 α2 : AS} {a b : Bool} (h1 : ma α = some (.d (.bool a), α1)) (h2 : a = true → mb α1 = some (.d (.bool b), α2)) (h3 : a = false → α1 = α2) : eAnd ma mb α = some (.d (.bool (a && b)), α2) := by
  unfold eAnd
  rw [tof_go h1, Option.bind_some]
  cases a with
  | true => rw [if_pos rfl, h2 rfl]; rfl
  | false => rw [if_neg (by simp), h3 rfl]; rfl
theorem not_go {ma : ME} {α α1 : AS} {b : Bool} (h : ma α = some (.d (.bool b), α1)) : eNot ma α = some (.d (.bool !b), α1) := by
  unfold eNot
  rw [tof_go h, Option.bind_some]
theorem mnot_go {m : MT} {α α1 : AS} {b : Bool} (h : m α = some (b, α1)) : mNot m α = some (!b, α1) := by
  unfold mNot
  rw [h, Option.bind_some]
theorem eop_go {f : Da → Da → Option Da} {ma mb : ME} {α α1 α2 : AS} {la lb : Lc} {a b c : Da} (h1 : ma α = some (la, α1)) (h2 : mb α1 = some (lb, α2)) (ra : res α2 la = some a) (rb : res α2 lb = some b) (hf : f a b = some c) : eOp f ma mb α = some (.d c, α2) := by
  unfold eOp
  rw [h1, Option.bind_some]
  dsimp only
  rw [h2, Option.bind_some]
  dsimp only
  rw [ra, Option.bind_some, rb, Option.bind_some, hf, Option.bind_some]
theorem sub0 (y : Da) (ys : List Da) : fSubs (.tuple (y :: ys)) (.int 0) = some y := by
  show atI _ _ = _
  unfold atI ixN
  rw [if_pos (by decide), if_pos (by simp only [List.length_cons]; omega)]
  rfl
theorem sub1 (x y : Da) (ys : List Da) : fSubs (.tuple (x :: y :: ys)) (.int 1) = some y := by
  show atI _ _ = _
  unfold atI ixN
  rw [if_pos (by decide), if_pos (by simp only [List.length_cons]; omega)]
  rfl
def ShD (x : Da) (k n : Nat) : Prop := ∃ d, toPyR x = some d ∧ Sh d k n
theorem ShD.mono {x : Da} {k n k' n' : Nat} (h : ShD x k n) (hk : k ≤ k') (hn : n ≤ n') : ShD x k' n' := let ⟨d, e, s⟩ := h; ⟨d, e, s.mono hk hn⟩
theorem shd_str {z : Str} (h : Sh (.str z) 0 62) (hl : z.length ≤ 100000) : ShD (.str z) 0 62 := ⟨.str z, by unfold toPyR; rw [if_pos hl], h⟩
theorem shd_nm {z : Str} (h : Nm z) : ShD (.str z) 0 62 := shd_str (str_sh h) (by have := h.2.1; omega)
theorem toPysR_sh {k n : Nat} : ∀ {xs : List Da}, (∀ x ∈ xs, ShD x k n) → ∃ ds, toPysR xs = some ds ∧ (∀ d ∈ ds, Sh d k n) ∧ ds.length = xs.length
  | [], _ => ⟨[], rfl, fun d m => (List.not_mem_nil m).elim, rfl⟩
  | x :: xs, h => by
    obtain ⟨d, e, s⟩ := h x (List.mem_cons_self ..)
    obtain ⟨ds, e2, s2, l⟩ := toPysR_sh (xs := xs) fun y m => h y (List.mem_cons_of_mem _ m)
    refine ⟨d :: ds, ?_, fun y m => ?_, by rw [List.length_cons, List.length_cons, l]⟩
    · unfold toPysR
      rw [e, e2]
      rfl
    · rcases List.mem_cons.mp m with rfl | m
      · exact s
      · exact s2 y m
theorem shd_tup {xs : List Da} {k n : Nat} (m : Nat) (h : ∀ x ∈ xs, ShD x k n) (hl : xs.length ≤ m) (hm : m ≤ 100000) : ShD (.tuple xs) (k + 1) (m * (n + 2) + 3) := by
  obtain ⟨ds, e, s, l⟩ := toPysR_sh h
  refine ⟨.tuple ds, ?_, tup_sh s (by omega)⟩
  unfold toPyR
  rw [if_pos (by omega), e]
  rfl
theorem repr_go {x : Da} {k n : Nat} (h : ShD x k n) (hk : k ≤ 30) (hn : n ≤ 16000000) : ∃ z, fRepr [x] = some (.str z) := by
  obtain ⟨d, e, s⟩ := h
  refine ⟨d.shown, ?_⟩
  unfold fRepr
  dsimp only
  rw [e, Option.bind_some, if_pos (s.shows hk hn)]
def sl : Option Da → AV
  | some x => .d x
  | none => .un
theorem sl_fix (o : Option Da) : (sl o).isFix = false := by cases o <;> rfl
theorem neS_str (z : Str) : fNeS (.str z) (.str z) = some (.bool false) := by
  show some (Da.bool (!(z == z))) = _
  rw [show (z == z) = true from beq_self_eq_true z]
  rfl
end Vm
namespace Mth
abbrev Pl := Nat × Nat
structure Post (ν : Type) where
  c : Nat
  nm : ν
  arms : List Nat
section
variable {ν : Type} (posts : List (Post ν)) (W : List (Nat × ν × Nat)) (G : List Nat) (hi : Nat → List Nat) (ends : List Nat)
variable {posts W G hi ends}
/-- the posts, each with the arm of the world alone -/
def right (posts : List (Post ν)) (w : List Nat) : List (Post ν) := (posts.zip w).map fun x => ⟨x.1.c, x.1.nm, [x.2]⟩
theorem most {τ : Type} (f : τ → Nat) (P : τ → Prop) : ∀ (L : List τ), (∃ x ∈ L, P x) → ∃ x ∈ L, P x ∧ ∀ y ∈ L, P y → f y ≤ f x
  | [], ⟨x, m, _⟩ => (List.not_mem_nil m).elim
  | a :: L, h => by
    by_cases hl : ∃ x ∈ L, P x
    · obtain ⟨x, h1, h2, h3⟩ := most f P L hl
      by_cases ha : P a ∧ f x < f a
      · refine ⟨a, List.mem_cons_self .., ha.1, fun y m hy => ?_⟩
        rcases List.mem_cons.mp m with rfl | m
        · exact Nat.le_refl _
        · exact Nat.le_of_lt (Nat.lt_of_le_of_lt (h3 y m hy) ha.2)
      · refine ⟨x, List.mem_cons_of_mem _ h1, h2, fun y m hy => ?_⟩
        rcases List.mem_cons.mp m with rfl | m
        · exact Nat.le_of_not_lt fun z => ha ⟨hy, z⟩
        · exact h3 y m hy
    · obtain ⟨x, m, hx⟩ := h
      rcases List.mem_cons.mp m with rfl | m
      · refine ⟨x, List.mem_cons_self .., hx, fun y m hy => ?_⟩
        rcases List.mem_cons.mp m with rfl | m
        · exact Nat.le_refl _
        · exact (hl ⟨y, m, hy⟩).elim
      · exact (hl ⟨x, m, hx⟩).elim
end
section
variable {τ : Type} [DecidableEq τ]
def addP (S : List τ) (q : τ) : List τ := if q ∈ S then S else S ++ [q]
theorem addP_mem {S : List τ} {q x : τ} : x ∈ addP S q ↔ x ∈ S ∨ x = q := by
  unfold addP
  split
  · rename_i h
    exact ⟨.inl, fun z => z.elim id fun e => by rw [e]; exact h⟩
  · rw [List.mem_append, List.mem_singleton]
theorem addP_nodup {S : List τ} {q : τ} (h : S.Nodup) : (addP S q).Nodup := by
  unfold addP
  split
  · exact h
  · rename_i n
    rw [List.nodup_append]
    exact ⟨h, by simp, fun a ha b hb e => n (by rw [List.mem_singleton.mp hb] at e; rw [← e]; exact ha)⟩
end
end Mth
namespace Vm
open PySem PySem.Spec PyProof.Rows L2 Gk Mth
def kP (x : Pl) : List Key := [.inl (x.1 : Int), .inl (x.2 : Int)]
theorem mkD_nodup {κ τ : Type} [DecidableEq κ] {es : List (κ × τ)} (h : (es.map (·.1)).Nodup) : mkD es = es := by
  have gen : ∀ (es acc : List (κ × τ)), ((acc ++ es).map (·.1)).Nodup → es.foldl (fun acc kv => putD acc kv.1 kv.2) acc = acc ++ es := by
    intro es
    induction es with
    | nil => intro acc _; rw [List.append_nil]; rfl
    | cons e es ih =>
      intro acc hn
      rw [List.foldl_cons]
      have : putD acc e.1 e.2 = acc ++ [e] := by
        unfold putD
        rw [if_neg]
        intro z
        obtain ⟨y, my, ey⟩ := List.any_eq_true.mp z
        rw [List.map_append, List.nodup_append] at hn
        exact hn.2.2 y.1 (List.mem_map_of_mem my) e.1 (by simp) (of_decide_eq_true ey)
      rw [this, ih _ (by rw [List.append_assoc]; exact hn), List.append_assoc]
      rfl
  have := gen es [] (by rw [List.nil_append]; exact h)
  rw [List.nil_append] at this
  exact this
/-- a nodup list within another one -/
theorem nodup_le {τ : Type} [DecidableEq τ] : ∀ {l m : List τ}, l.Nodup → (∀ x ∈ l, x ∈ m) → l.length ≤ m.length
  | [], m, _, _ => Nat.zero_le _
  | a :: l, m, h, s => by
    rw [List.nodup_cons] at h
    have ha : a ∈ m := s a (List.mem_cons_self ..)
    have := nodup_le (l := l) (m := m.erase a) h.2 fun x mx => by
      rw [List.mem_erase_of_ne]
      · exact s x (List.mem_cons_of_mem _ mx)
      · intro e; rw [e] at mx; exact h.1 mx
    rw [List.length_erase_of_mem ha] at this
    have hp : 0 < m.length := List.length_pos_of_mem ha
    rw [List.length_cons]
    omega
def box (n m : Nat) : List Pl := (List.range n).flatMap fun c => (List.range m).map fun s => (c, s)
theorem box_mem {n m : Nat} {x : Pl} : x ∈ box n m ↔ x.1 < n ∧ x.2 < m := by
  unfold box
  rw [List.mem_flatMap]
  constructor
  · rintro ⟨c, hc, h⟩
    obtain ⟨s, hs, rfl⟩ := List.mem_map.mp h
    exact ⟨List.mem_range.mp hc, List.mem_range.mp hs⟩
  · rintro ⟨h1, h2⟩
    exact ⟨x.1, List.mem_range.mpr h1, List.mem_map.mpr ⟨x.2, List.mem_range.mpr h2, rfl⟩⟩
theorem box_len (n m : Nat) : (box n m).length = n * m := by
  unfold box
  rw [List.length_flatMap]
  simp only [List.length_map, List.length_range]
  induction n with
  | zero => simp
  | succ n ih => rw [List.range_succ, List.map_append, List.sum_append, ih, Nat.succ_mul]; simp
theorem box_le {n m : Nat} {S : List Pl} (hn : S.Nodup) (h : ∀ x ∈ S, x.1 < n ∧ x.2 < m) : S.length ≤ n * m := by
  rw [← box_len]
  exact nodup_le hn fun x mx => box_mem.mpr (h x mx)
end Vm
namespace Vm
open PySem PySem.Spec PyProof.Rows L2 Gk Mth
theorem evd {i : Nat} {α : AS} {q : AV} (h : α[i]? = some q) (hq : q ≠ .un := by intro z; cases z) : eV i α = some (.s i, α) := by
  unfold eV
  rw [h]
  cases q with
  | un => exact (hq rfl).elim
  | _ => rfl
theorem tofop_go {f : Da → Da → Option Da} {ma mb : ME} {α : AS} {la lb : Lc} {x y : Da} {b : Bool} (h1 : ma α = some (la, α)) (h2 : mb α = some (lb, α)) (ra : res α la = some x) (rb : res α lb = some y) (hf : f x y = some (.bool b)) : tOfE (eOp f ma mb) α = some (b, α) :=
  tof_go (eop_go h1 h2 ra rb hf)
end Vm
namespace Vm
open PySem PySem.Spec PyProof.Rows L2 Gk Mth
theorem acons_go {ma : ME} {mr : MA} {α α1 α2 : AS} {l : Lc} {ls : List Lc} (h1 : ma α = some (l, α1)) (h2 : mr α1 = some (ls, α2)) : aCons ma mr α = some (l :: ls, α2) := by
  unfold aCons
  rw [h1, Option.bind_some]
  dsimp only
  rw [h2, Option.bind_some]
theorem tupN_go {m : MA} {α α1 : AS} {ls : List Lc} {xs : List Da} (h : m α = some (ls, α1)) (o : ownA α1 ls = some xs) (hl : xs.length ≤ LIM) : eTup m α = some (.d (.tuple xs), α1) := by
  unfold eTup
  rw [h, Option.bind_some]
  dsimp only
  rw [o, Option.bind_some, if_pos hl]
theorem nodup_ix {α : AS} {ls : List Lc} {is : List Nat} (h : ls.filterMap (rootIx α) = is) (hn : is.Nodup) : (ls.filterMap (rootIx α)).Nodup := by rw [h]; exact hn
end Vm
namespace Vm
open PySem PySem.Spec PyProof.Rows L2 Gk Mth
def leD {τ : Type} (f : τ → PyData) (a b : τ) : Bool := PySem.W.dataLe false f a b
theorem dle_total {τ : Type} (f : τ → PyData) : PySem.W.TotalLe (PySem.W.dataLe false f) := PySem.W.sortLe_total (PyProof.Rows.listOrd PyProof.Rows.itemOrd) false fun b => PySem.W.keyToks (f b)
def sortBy {τ : Type} (f : τ → PyData) (S : List τ) : List τ := S.mergeSort (leD f)
theorem sortBy_perm {τ : Type} (f : τ → PyData) (S : List τ) : (sortBy f S).Perm S := List.mergeSort_perm ..
theorem sortBy_pw {τ : Type} (f : τ → PyData) (S : List τ) : (sortBy f S).Pairwise (fun a b => leD f a b = true) :=
  List.pairwise_mergeSort (le := leD f) (fun a b c h1 h2 => (dle_total f).trans a b c h1 h2) (fun a b => by
    rw [Bool.or_eq_true]
    exact (dle_total f).total a b) S
theorem le_ints {i j : Int} (h : PySem.W.dataLe false kPy (.inl i) (.inl j) = true) : i ≤ j := by
  refine Int.not_lt.mp fun z => ?_
  unfold PySem.W.dataLe PySem.W.sortLe at h
  simp only [cond_false, Bool.not_eq_true'] at h
  have e : ∀ k : Int, PySem.W.keyToks (kPy (.inl k)) = [.inl k] := fun k => by simp [kPy, PySem.W.keyToks]
  rw [e, e] at h
  simp [PyProof.Rows.lexLt, PyProof.Rows.itemLt, z] at h
theorem sortK_nats (bs : List Nat) : ∃ cs : List Nat, sortK (bs.map fun b : Nat => (.inl (b : Int) : Key)) = cs.map (fun b : Nat => (.inl (b : Int) : Key)) ∧ cs.Perm bs ∧ cs.Pairwise (· ≤ ·) := by
  refine ⟨bs.mergeSort fun a b => PySem.W.dataLe false kPy (.inl (a : Int)) (.inl (b : Int)), by unfold sortK; rw [merge_map], List.mergeSort_perm .., ?_⟩
  refine (List.pairwise_mergeSort (le := fun a b : Nat => PySem.W.dataLe false kPy (.inl (a : Int)) (.inl (b : Int))) (fun a b c h1 h2 => (dle_total kPy).trans _ _ _ h1 h2) (fun a b => by
    rw [Bool.or_eq_true]
    exact (dle_total kPy).total _ _) bs).imp fun h => ?_
  have := le_ints h
  omega
theorem kPy_ints (bs : List Nat) : PySem.W.AllAlike ((bs.map fun b : Nat => (.inl (b : Int) : Key)).map kPy) ∧ PySem.W.Sortable ((bs.map fun b : Nat => (.inl (b : Int) : Key)).map kPy) := by
  rw [List.map_map]
  exact ⟨PySem.W.AllAlike.of fun b b' => by simp [kPy, PySem.W.alike], PySem.W.Sortable.others fun b => ⟨fun z => by simp [kPy] at z, fun xs z => by simp [kPy] at z⟩⟩
theorem kPy_strs (bs : List Str) : PySem.W.AllAlike ((bs.map fun b : Str => (.inr b : Key)).map kPy) ∧ PySem.W.Sortable ((bs.map fun b : Str => (.inr b : Key)).map kPy) := by
  rw [List.map_map]
  exact ⟨PySem.W.AllAlike.of fun b b' => by simp [kPy, PySem.W.alike], PySem.W.Sortable.others fun b => ⟨fun z => by simp [kPy] at z, fun xs z => by simp [kPy] at z⟩⟩
end Vm
namespace Vm
open PySem PySem.Spec PyProof.Rows L2 Gk
theorem bse {τ υ : Type} {t : Option τ} {f : τ → Option υ} {r : υ} (h : t.bind f = some r) : ∃ x, t = some x ∧ f x = some r := Option.bind_eq_some_iff.mp h
theorem csp {τ : Type} {b : Bool} {x y : Option τ} {r : τ} (h : cond b x y = some r) : (b = true ∧ x = some r) ∨ (b = false ∧ y = some r) := by
  cases b
  · exact .inr ⟨rfl, h⟩
  · exact .inl ⟨rfl, h⟩
def asB : Da → Option Bool
  | .bool b => some b
  | _ => none
theorem asB_eq {x : Da} {b : Bool} (h : asB x = some b) : x = .bool b := by
  cases x <;> first | (cases h; rfl) | cases h
def asI : Da → Option Int
  | .int b => some b
  | _ => none
theorem asI_eq {x : Da} {b : Int} (h : asI x = some b) : x = .int b := by
  cases x <;> first | (cases h; rfl) | cases h
def isN (neg : Bool) : Da → Bool
  | .none => !neg
  | _ => neg
def isiU (T : String) (x : Da) : Option Bool := (tyN x).bind fun t => isiB T t
def un2 : Da → Option (Da × Da)
  | .tuple [a, b] => some (a, b)
  | _ => none
def un3 : Da → Option (Da × Da × Da)
  | .tuple [a, b, c] => some (a, b, c)
  | _ => none
def un4 : Da → Option (Da × Da × Da × Da)
  | .tuple [a, b, c, d] => some (a, b, c, d)
  | _ => none
theorem un2_eq {x a b : Da} (h : un2 x = some (a, b)) : x = .tuple [a, b] := by
  unfold un2 at h
  split at h <;> cases h
  rfl
theorem un3_eq {x a b c : Da} (h : un3 x = some (a, b, c)) : x = .tuple [a, b, c] := by
  unfold un3 at h
  split at h <;> cases h
  rfl
def limU {τ : Type} (xs : List τ) : Option (List τ) := if xs.length ≤ LIM then some xs else none
theorem limU_eq {τ : Type} {xs ys : List τ} (h : limU xs = some ys) : xs = ys ∧ xs.length ≤ LIM := by
  unfold limU at h
  split at h
  · exact ⟨Option.some.inj h, by assumption⟩
  · cases h
def unT : Da → Option (List Da)
  | .tuple xs => some xs
  | _ => none
theorem unT_eq {x : Da} {xs : List Da} (h : unT x = some xs) : x = .tuple xs := by
  unfold unT at h
  split at h <;> cases h
  rfl
section
variable {α α0 α1 α2 α3 β γ : AS} {l la lb lc le lk : Lc} {ls ms ks : List Lc} {a b c d k v x y z : Da} {as bs cs xs ys zs : List Da} {t u w : Bool}
theorem own_res (h : own α l = some x) : res α l = some x := by
  cases l with
  | d y => exact h
  | s i =>
    have h' : (α[i]?).bind AV.get = some x := h
    show (α[i]?).bind AV.see = some x
    obtain ⟨q, e, o2⟩ := bse h'
    rw [e]
    cases q <;> first | exact o2 | cases o2
theorem oc {r : List Lc} (h : own α l = some x) (g : ownA α r = some xs) : ownA α (l :: r) = some (x :: xs) := by
  unfold ownA
  rw [h, g]
  rfl
theorem rc {r : List Lc} (h : res α l = some x) (g : resA α r = some xs) : resA α (l :: r) = some (x :: xs) := by
  unfold resA
  rw [h, g]
  rfl
theorem un_u {f : Da → Option Da} {ma : ME} (h1 : ma α = some (la, β)) (ra : res β la = some a) (hf : f a = some c) : eUn f ma α = some (.d c, β) := by
  unfold eUn
  rw [h1, Option.bind_some, ra, Option.bind_some, hf, Option.bind_some]
theorem cb_u {f : List Da → Option Da} {ma : MA} (h1 : ma α = some (ls, β)) (ra : resA β ls = some as) (hf : f as = some c) : eCB f ma α = some (.d c, β) := by
  unfold eCB
  rw [h1, Option.bind_some, ra, Option.bind_some, hf, Option.bind_some]
theorem tofe_u {m : ME} (h : m α = some (l, β)) (r : res β l = some x) (hb : asB x = some t) : tOfE m α = some (t, β) := by
  cases asB_eq hb
  unfold tOfE
  rw [h, Option.bind_some, r]
  rfl
theorem tru_u {m : ME} (h : m α = some (l, β)) (r : res β l = some x) : mTru m α = some (truD x, β) := by
  unfold mTru
  rw [h, Option.bind_some, r]
  rfl
theorem enot_u {m : ME} (h : tOfE m α = some (t, β)) : eNot m α = some (.d (.bool !t), β) := by
  unfold eNot
  rw [h, Option.bind_some]
theorem mand_b {m n : MT} {B : Option Bool} (h1 : m α = some (t, β)) (h2 : t = true → ∀ x, B = some x → n β = some (x, β)) (h : cond t B (some false) = some w) : mAnd m n α = some (w, β) := by
  unfold mAnd
  rw [h1, Option.bind_some]
  rcases csp h with ⟨rfl, e⟩ | ⟨rfl, e⟩
  · rw [if_pos rfl, h2 rfl _ e]
  · cases e; rw [if_neg (by simp)]
theorem mor_b {m n : MT} {B : Option Bool} (h1 : m α = some (t, β)) (h2 : t = false → ∀ x, B = some x → n β = some (x, β)) (h : cond t (some true) B = some w) : mOr m n α = some (w, β) := by
  unfold mOr
  rw [h1, Option.bind_some]
  rcases csp h with ⟨rfl, e⟩ | ⟨rfl, e⟩
  · cases e; rw [if_pos rfl]
  · rw [if_neg (by simp), h2 rfl _ e]
theorem and_b {ma mb : ME} {B : Option Da} (h1 : tOfE ma α = some (t, β)) (h2 : t = true → ∀ x, B = some x → ∃ l, mb β = some (l, β) ∧ own β l = some x) (h : cond t B (some (.bool false)) = some x) : ∃ l, eAnd ma mb α = some (l, β) ∧ own β l = some x := by
  unfold eAnd
  rw [h1, Option.bind_some]
  rcases csp h with ⟨rfl, e⟩ | ⟨rfl, e⟩
  · rw [if_pos rfl]; exact h2 rfl _ e
  · cases e; rw [if_neg (by simp)]; exact ⟨_, rfl, rfl⟩
theorem isi_u {T : String} {m : ME} (h : m α = some (l, β)) (r : res β l = some x) (hb : isiU T x = some t) : eIsi T m α = some (.d (.bool t), β) := isi_go h r hb
def chainU (f g : Da → Da → Option Da) (a b c : Da) : Option Da := (f a b).bind fun z => (asB z).bind fun t => cond t (g b c) (some (.bool false))
theorem chain_u {f g : Da → Da → Option Da} {ma mb mc : ME} (ha : ma α = some (la, α)) (hb : mb α = some (lb, α)) (hc : mc α = some (lc, α)) (ra : res α la = some a) (rb : res α lb = some b) (rc : res α lc = some c) (h : chainU f g a b c = some x) :
    eChain f g ma mb mc α = some (.d x, α) := by
  unfold chainU at h
  obtain ⟨z, e1, h⟩ := bse h
  obtain ⟨t, e2, h⟩ := bse h
  cases asB_eq e2
  unfold eChain
  rw [ha, Option.bind_some, hb, Option.bind_some, ra, Option.bind_some, rb, Option.bind_some, e1, Option.bind_some]
  rcases csp h with ⟨rfl, e⟩ | ⟨rfl, e⟩
  · dsimp only
    rw [hc, Option.bind_some, rb, Option.bind_some, rc, Option.bind_some, e, Option.bind_some]
  · cases e; rfl
theorem ef_u {mf : MF} {r : Nw} (h : mf α = some (r, β)) : eF mf α = some (.d r.da, β) := by
  unfold eF
  rw [h, Option.bind_some]
theorem osome_u {m : ME} {i : Int} (h : m α = some (l, β)) (r : res β l = some x) (hi : asI x = some i) : oSome m α = some (some i, β) := by
  cases asI_eq hi
  unfold oSome
  rw [h, Option.bind_some, r]
  rfl
theorem sl_u {me : ME} {ml mh : MO} {o1 o2 : Option Int} (h1 : me α = some (l, α1)) (h2 : ml α1 = some (o1, α2)) (h3 : mh α2 = some (o2, α3)) (r : res α3 l = some x) (hf : fSl o1 o2 x = some c) : eSl me ml mh α = some (.d c, α3) := by
  unfold eSl
  rw [h1, Option.bind_some, h2, Option.bind_some, h3, Option.bind_some, r, Option.bind_some, hf, Option.bind_some]
def uC (F : FV) (as : List AV) : Option Da := (F as).map (·.1.da)
def uW (F : FV) (as : List AV) : Option Da := (F as).bind fun y => match y.1 with
  | .one (.w (.r x)) => some x
  | _ => none
def AV.with (q : AV) (x : Da) : AV := match q with
  | .r f l _ => .r f l x
  | .n f l _ => .n f l x
  | q => q
def setAs : List AV → List Nat → List Da → List AV
  | as, [], [] => as
  | as, i :: is, x :: xs => setAs (as.set i (((as[i]?).getD .un).with x)) is xs
  | as, _, _ => as
def seesA (as : List AV) : List Nat → Option (List Da)
  | [] => some []
  | i :: is => ((as[i]?).bind fun q => match q with
    | .r _ _ x => some x
    | .n _ _ x => some x
    | _ => none).bind fun x => (seesA as is).bind fun xs => some (x :: xs)
/-- a call whose own things at these arguments come back changed -/
noncomputable def uR (F : FV) (as : List AV) (is : List Nat) : Option (Da × List Da) := (F as).bind fun y => (seesA y.2 is).bind fun xs => open Classical in if y.2 = setAs as is xs then some (y.1.da, xs) else none
theorem uR_eq {F : FV} {asv : List AV} {is : List Nat} (h : uR F asv is = some (x, xs)) : ∃ v, F asv = some (v, setAs asv is xs) ∧ v.da = x := by
  unfold uR at h
  obtain ⟨y, e1, h⟩ := bse h
  obtain ⟨zs, e2, h⟩ := bse h
  split at h
  · rename_i e3
    cases h
    exact ⟨y.1, by rw [e1, ← e3], rfl⟩
  · cases h
theorem uR_of {F : FV} {asv bsv : List AV} {is : List Nat} {v : Rv} (h : F asv = some (v, bsv)) (hs : seesA bsv is = some xs) (e : bsv = setAs asv is xs) : uR F asv is = some (v.da, xs) := by
  unfold uR
  rw [h, Option.bind_some]
  dsimp only
  rw [hs, Option.bind_some, if_pos e]
def un1l : List Da → Option Da
  | [a] => some a
  | _ => none
theorem un1l_eq (h : un1l xs = some a) : xs = [a] := by
  unfold un1l at h
  split at h <;> cases h
  rfl
theorem callM_u {F : FV} {asv : List AV} (ha : argsOf β ls = some asv) (hn : ls.filterMap (rootIx β) = []) (hF : uC F asv = some x) : ∃ v z, F asv = some (v, z) ∧ callM F β ls = some (v, β) ∧ v.da = x := by
  unfold uC at hF
  obtain ⟨y, e, h⟩ := Option.map_eq_some_iff.mp hF
  refine ⟨y.1, y.2, e, ?_, h⟩
  unfold callM
  rw [ha, Option.bind_some, e, Option.bind_some, hn, if_pos (by simp), putD0 hn]
theorem call_u {F : FV} {ds : List Da} {ma : MA} {asv : List AV} (h1 : ma α = some (ls, β)) (ha : argsOf β (ls ++ ds.map Lc.d) = some asv) (hn : (ls ++ ds.map Lc.d).filterMap (rootIx β) = []) (hF : uC F asv = some x) : eCall F ds ma α = some (.d x, β) := by
  obtain ⟨v, z, _, e, rfl⟩ := callM_u ha hn hF
  unfold eCall
  rw [h1, Option.bind_some, e, Option.bind_some]
theorem fcall_u {F : FV} {ds : List Da} {ma : MA} {asv : List AV} (h1 : ma α = some (ls, β)) (ha : argsOf β (ls ++ ds.map Lc.d) = some asv) (hn : (ls ++ ds.map Lc.d).filterMap (rootIx β) = []) (hF : uW F asv = some x) : fCall F ds ma α = some (.r x, β) := by
  unfold uW at hF
  obtain ⟨y, e, h⟩ := bse hF
  have e2 : callM F β (ls ++ ds.map Lc.d) = some (y.1, β) := by
    unfold callM
    rw [ha, Option.bind_some, e, Option.bind_some, hn, if_pos (by simp), putD0 hn]
  unfold fCall
  rw [h1, Option.bind_some, e2, Option.bind_some]
  split at h
  · rename_i e3
    cases h
    rw [e3]
  · cases h
/-- own things among the arguments -/
theorem callr_u {F : FV} {ds : List Da} {ma : MA} {asv : List AV} {is : List Nat} (h1 : ma α = some (ls, β)) (ha : argsOf β (ls ++ ds.map Lc.d) = some asv) (hn : ((ls ++ ds.map Lc.d).filterMap (rootIx β)).Nodup) (hF : uR F asv is = some (x, xs)) (hp : putBack β (ls ++ ds.map Lc.d) (setAs asv is xs) = γ) : eCall F ds ma α = some (.d x, γ) := by
  obtain ⟨v, e, rfl⟩ := uR_eq hF
  unfold eCall callM
  rw [h1, Option.bind_some]
  dsimp only
  rw [ha, Option.bind_some, e, Option.bind_some, if_pos hn, Option.bind_some, hp]
theorem flst_u {ma : MA} (h : ma α = some (ls, β)) (o : ownA β ls = some xs) (hl : xs.length ≤ LIM) : fLst ma α = some (.r (.list xs), β) := by
  unfold fLst
  rw [h, Option.bind_some, o, Option.bind_some, if_pos hl]
noncomputable def uSortM : List Da → Option (List Da)
  | [.list xs] => sortD xs
  | _ => none
theorem fsortM_u {ma : MA} (h : ma α = some (ls, β)) (r : resA β ls = some as) (hf : uSortM as = some xs) : fSortM ma α = some (.r (.list xs), β) := by
  unfold uSortM at hf
  split at hf
  · unfold fSortM
    rw [h, Option.bind_some, r, Option.bind_some]
    dsimp only
    rw [hf, Option.bind_some]
  · cases hf
noncomputable def uSortDK : List Da → Option (List Da)
  | [.dk kvs] => open Classical in if PySem.W.AllAlike ((kvs.map (·.1)).map kPy) ∧ PySem.W.Sortable ((kvs.map (·.1)).map kPy) then some ((sortK (kvs.map (·.1))).map kD) else none
  | _ => none
theorem fsortDK_u {ma : MA} (h : ma α = some (ls, β)) (r : resA β ls = some as) (hf : uSortDK as = some xs) : fSortDK ma α = some (.r (.list xs), β) := by
  unfold uSortDK at hf
  split at hf
  · split at hf
    · rename_i hl
      cases hf
      unfold fSortDK
      rw [h, Option.bind_some, r, Option.bind_some]
      dsimp only
      rw [if_pos hl]
    · cases hf
  · cases hf
def flatU {τ : Type} (f : Da → Option (List τ)) : List Da → Option (List τ)
  | [] => some []
  | x :: xs => (f x).bind fun y => (flatU f xs).bind fun ys => some (y ++ ys)
theorem wipe_at {vs : List Nat} {i : Nat} (h : i ∉ vs) : (wipeA α vs)[i]? = α[i]? := by
  induction vs with
  | nil => rfl
  | cons v vs ih =>
    unfold wipeA
    rw [List.getElem?_set_ne (fun e => h (by rw [← e]; exact List.mem_cons_self ..)), ih fun m => h (List.mem_cons_of_mem _ m)]
theorem wipe_len {vs : List Nat} : (wipeA α vs).length = α.length := by
  induction vs with
  | nil => rfl
  | cons v vs ih => unfold wipeA; rw [List.length_set, ih]
theorem back_wipe (vs : List Nat) : backA α (wipeA α vs) vs = α := by
  unfold backA
  apply List.ext_getElem?
  intro i
  rw [List.getElem?_mapIdx]
  by_cases h : i ∈ vs
  · cases e : (wipeA α vs)[i]? with
    | none =>
      have : α[i]? = none := by rw [List.getElem?_eq_none_iff, ← wipe_len (vs := vs)]; exact List.getElem?_eq_none_iff.mp e
      rw [this]; rfl
    | some q =>
      have hl : i < α.length := by rw [← wipe_len (vs := vs)]; exact getElem?_lt e
      rw [Option.map_some, if_pos h, List.getElem?_eq_getElem hl]
      rfl
  · rw [wipe_at h]
    cases α[i]? with
    | none => rfl
    | some q => rw [Option.map_some, if_neg h]
theorem nr_nil : noRoots α [] := fun i m => (List.not_mem_nil m).elim
theorem nr_cons {i : Nat} {vs : List Nat} {q : AV} (h : α[i]? = some q) (hq : q.isRoot = false) (r : noRoots α vs) : noRoots α (i :: vs) := fun j m s e => by
  rcases List.mem_cons.mp m with rfl | m
  · rw [h] at e; cases e; exact hq
  · exact r j m s e
def CmP {τ : Type} (g : MG) (tt : MT) (u : AS → Option (List τ × AS)) (vs : List Nat) (W : AS) (x : Da) (y : List τ) : Prop := ∃ B b, g x W = some B ∧ tt B = some (b, B) ∧ (b = true → u B = some (y, B)) ∧ (b = false → y = []) ∧ wipeA B vs = W
theorem cmL_u {τ : Type} {g : MG} {tt : MT} {u : AS → Option (List τ × AS)} {vs : List Nat} {W : AS} {f : Da → Option (List τ)} (h : ∀ x y, f x = some y → CmP g tt u vs W x y) : ∀ {xs : List Da} {ys : List τ}, flatU f xs = some ys → cmL vs g tt u xs W = some (ys, W)
  | [], ys, e => by cases e; rfl
  | x :: xs, ys, e => by
    unfold flatU at e
    obtain ⟨y, e1, e⟩ := bse e
    obtain ⟨zs, e2, e⟩ := bse e
    cases e
    obtain ⟨B, b, g1, g2, g3, g4, g5⟩ := h x y e1
    have ih := cmL_u h e2
    unfold cmL
    rw [g1, Option.bind_some, g2, Option.bind_some]
    cases b with
    | true => rw [if_pos rfl, g3 rfl, Option.bind_some, g5, ih, Option.bind_some]
    | false => rw [if_neg (by simp), g5, ih, g4 rfl]; rfl
theorem cm_u {τ : Type} {i : MI} {vs : List Nat} {g : MG} {tt : MT} {u : AS → Option (List τ × AS)} {W : AS} {ys : List τ} {f : Da → Option (List τ)} (hi : i α = some ((xs, []), β)) (nr : noRoots β vs) (hw : wipeA β vs = W) (h : ∀ x y, f x = some y → CmP g tt u vs W x y) (e : flatU f xs = some ys) : cmI i vs g tt u α = some (ys, β) := by
  unfold cmI
  rw [hi, Option.bind_some]
  dsimp only
  rw [if_pos ⟨nr, fun j m => (List.not_mem_nil m).elim⟩, lockA_nil, hw, cmL_u h e, Option.bind_some]
  dsimp only
  rw [freeA_nil, ← hw, back_wipe]
theorem mlc_u {m : ME} (h : m α = some (l, β)) (o : own β l = some x) : mLc m α = some ([x], β) := by
  unfold mLc
  rw [h, Option.bind_some, o, Option.bind_some]
theorem mdc_u {κ : Type} {key : Da → Option κ} {mk mv : ME} {kk : κ} (h1 : mk α = some (lk, α1)) (h2 : mv α1 = some (l, β)) (o1 : own β lk = some k) (o2 : own β l = some v) (hk : key k = some kk) : mDc key mk mv α = some ([(kk, v)], β) := by
  unfold mDc
  rw [h1, Option.bind_some, h2, Option.bind_some, o1, Option.bind_some, o2, Option.bind_some, hk, Option.bind_some]
theorem flc_u {m : AS → Option (List Da × AS)} (h : m α = some (xs, β)) (hl : limU xs = some ys) : fLc m α = some (.r (.list ys), β) := by
  obtain ⟨rfl, hk⟩ := limU_eq hl
  unfold fLc
  rw [h, Option.bind_some, if_pos hk]
theorem fdc_u {m : AS → Option (List (Key × Da) × AS)} {es fs : List (Key × Da)} (h : m α = some (es, β)) (hl : limU es = some fs) : fDc m α = some (.r (.dk (mkD fs)), β) := by
  obtain ⟨rfl, hk⟩ := limU_eq hl
  unfold fDc
  rw [h, Option.bind_some, if_pos hk]
def iterU : Da → Option (List Da)
  | .list xs => some xs
  | .tuple xs => some xs
  | .str z => some (signsD z)
  | x => keysOf x
theorem iany_u {m : ME} (h : m α = some (l, β)) (o : own β l = some x) (hx : iterU x = some xs) : iAny m α = some ((xs, []), β) := by
  unfold iAny iLst iTpl iKey iSgn
  rw [h]
  cases l with
  | d y =>
    cases o
    cases x <;> first | (cases hx; done) | (cases hx; rfl) | skip
  | s i =>
    have o' : (β[i]?).bind AV.get = some x := o
    obtain ⟨q, e, o2⟩ := bse o'
    cases q <;> first | (cases o2; done) | skip
    cases o2
    simp only [Option.bind_some, o, e]
    cases x <;> first | (cases hx; done) | (cases hx; rfl) | skip
def rg1U (a : Da) : Option (List Da) := (asI a).bind fun j => if -(2 ^ 62) ≤ j ∧ j < 2 ^ 62 then some ((List.range j.toNat).map fun (k : Nat) => Da.int (k : Int)) else none
def rg2U (a b : Da) : Option (List Da) := (asI a).bind fun i => (asI b).bind fun j => if -(2 ^ 62) ≤ i ∧ i < 2 ^ 62 ∧ -(2 ^ 62) ≤ j ∧ j < 2 ^ 62 then some ((List.range (j - i).toNat).map fun (k : Nat) => Da.int (i + (k : Int))) else none
theorem irg1_u {m : MA} (h : m α = some (ls, β)) (r : resA β ls = some [a]) (hx : rg1U a = some xs) : iRg1 m α = some ((xs, []), β) := by
  unfold rg1U at hx
  obtain ⟨j, e, hy⟩ := bse hx
  clear hx
  cases asI_eq e
  split at hy
  · rename_i hc
    cases hy
    unfold iRg1
    rw [h, Option.bind_some, r, Option.bind_some]
    dsimp only
    rw [if_pos hc]
  · cases hy
theorem irg2_u {m : MA} (h : m α = some (ls, β)) (r : resA β ls = some [a, b]) (hx : rg2U a b = some xs) : iRg2 m α = some ((xs, []), β) := by
  unfold rg2U at hx
  obtain ⟨i, e1, hx2⟩ := bse hx
  obtain ⟨j, e2, hy⟩ := bse hx2
  clear hx hx2
  cases asI_eq e1
  cases asI_eq e2
  split at hy
  · rename_i hc
    cases hy
    unfold iRg2
    rw [h, Option.bind_some, r, Option.bind_some]
    dsimp only
    rw [if_pos hc]
  · cases hy
def enuL : Da → Option (List Da)
  | .list xs => some (enuD xs)
  | _ => none
theorem ienl_u {m : MA} (h : m α = some (ls, β)) (o : ownA β ls = some [a]) (hx : enuL a = some xs) : iEnL m α = some ((xs, []), β) := by
  unfold enuL at hx
  split at hx
  · cases hx
    unfold iEnL
    rw [h, Option.bind_some, o, Option.bind_some]
  · cases hx
theorem gs_n : gsNil [] α = some α := rfl
theorem gs_c {m : MG} {r : MGs} (h : m x α = some β) (g : r xs β = some γ) : gsCons m r (x :: xs) α = some γ := by
  show (m x α).bind (fun β => r xs β) = _
  rw [h, Option.bind_some, g]
theorem gt2_u {r : MGs} (h : un2 x = some (a, b)) (g : r [a, b] α = some β) : gTupD 2 r x α = some β := by
  cases un2_eq h
  exact g
theorem gt3_u {r : MGs} (h : un3 x = some (a, b, c)) (g : r [a, b, c] α = some β) : gTupD 3 r x α = some β := by
  cases un3_eq h
  exact g
theorem asg_u {m : ME} {g : MG} (h : m α = some (l, β)) (o : own β l = some x) (hg : g x β = some γ) : sAsg m g α = some (.nx γ) := by
  unfold sAsg
  rw [h, Option.bind_some, o, Option.bind_some, hg, Option.bind_some]
theorem asgR_u {m : MF} {i : Nat} {r : Nw} {q : AV} (h : m α = some (r, β)) (hi : β[i]? = some q) (hq : q.isFix = false) : sAsgR i m α = some (.nx (β.set i r.av)) := by
  unfold sAsgR
  rw [h, Option.bind_some]
  dsimp only
  rw [setR_go hi hq, Option.bind_some]
theorem setI_u {i : Nat} {me mk : ME} {f0 f : Bool} {x0 : Da} (h1 : me α = some (le, β)) (hi : rootAt β i = some (f0, x0)) (h2 : mk β = some (lk, γ)) (hv : own γ le = some v) (hk : res γ lk = some k) (hr : rootAt γ i = some (f, x)) (hs : setDa x k v = some c) : sSetI i me mk α = some (.nx (γ.set i (.r f false c))) := by
  unfold sSetI
  rw [h1, Option.bind_some, hi, Option.bind_some, h2, Option.bind_some, hv, Option.bind_some, hk, Option.bind_some, hr, Option.bind_some, hs, Option.bind_some]
def appU : Da → Da → Option Da
  | .list xs, y => if xs.length < LIM then some (.list (xs ++ [y])) else none
  | _, _ => none
theorem append_u {i : Nat} {ma : MA} {f0 f : Bool} {zs : List Da} (h0 : rootAt α i = some (f0, .list zs)) (h : ma α = some (ls, β)) (o : ownA β ls = some [y]) (hr : rootAt β i = some (f, x)) (hs : appU x y = some c) : sAppend i ma α = some (.nx (β.set i (.r f false c))) := by
  unfold appU at hs
  split at hs
  · split at hs
    · rename_i hl
      cases hs
      unfold sAppend
      rw [h0]
      dsimp only
      rw [h, Option.bind_some, o, Option.bind_some, hr]
      dsimp only
      rw [if_pos hl]
    · cases hs
  · cases hs
theorem appU_list (h : appU x y = some c) : ∃ zs, x = .list zs := by
  unfold appU at h
  split at h
  · exact ⟨_, rfl⟩
  · cases h
/-- where the list itself is not changed by what is appended -/
theorem append_p {i : Nat} {ma : MA} {f : Bool} (h : ma α = some (ls, α)) (o : ownA α ls = some [y]) (hr : rootAt α i = some (f, x)) (hs : appU x y = some c) : sAppend i ma α = some (.nx (α.set i (.r f false c))) := by
  obtain ⟨zs, rfl⟩ := appU_list hs
  exact append_u hr h o hr hs
def extU : Da → Da → Option Da
  | .list xs, .list ys => if xs.length + ys.length ≤ LIM then some (.list (xs ++ ys)) else none
  | _, _ => none
theorem extend_p {i : Nat} {ma : MA} {f : Bool} (h : ma α = some (ls, α)) (o : ownA α ls = some [y]) (hr : rootAt α i = some (f, x)) (hs : extU x y = some c) : sExtend i ma α = some (.nx (α.set i (.r f false c))) := by
  unfold extU at hs
  split at hs
  · split at hs
    · rename_i hl
      cases hs
      unfold sExtend
      rw [hr]
      dsimp only
      rw [h, Option.bind_some, o, Option.bind_some, hr]
      dsimp only
      rw [if_pos hl]
    · cases hs
  · cases hs
theorem drop_u {m : ME} (h : m α = some (l, β)) : sDrop m α = some (.nx β) := by
  unfold sDrop
  rw [h, Option.bind_some]
theorem wseq {m n : MS} {Q : Out → Prop} (h : m α = some (.nx β)) (k : Wp (n β) Q) : Wp (sSeq m n α) Q := by
  rw [wp_seq, h, wp_some]
  exact k
theorem wlast {m : MS} {Q : Out → Prop} (h : m α = some (.nx β)) (k : Q (.nx β)) : Wp (m α) Q := by
  rw [h, wp_some]
  exact k
/-- what ends without going on -/
def Xq (Q : Out → Prop) : Out → Prop := fun o => (∀ γ, o ≠ .nx γ) ∧ Q o
theorem wseq_x {m n : MS} {Q : Out → Prop} (h : Wp (m α) (Xq Q)) : Wp (sSeq m n α) Q := by
  rw [wp_seq]
  refine h.mono fun o ho => ?_
  cases o with
  | nx γ => exact (ho.1 γ rfl).elim
  | bk γ => exact ho.2
  | ct γ => exact ho.2
  | rt r γ => exact ho.2
theorem wseq_j {m n : MS} {Q : Out → Prop} {R : AS → Prop} (h : Wp (m α) fun o => ∃ β, o = .nx β ∧ R β) (k : ∀ β, R β → Wp (n β) Q) : Wp (sSeq m n α) Q := by
  rw [wp_seq]
  refine h.mono fun o ⟨β, e, r⟩ => ?_
  subst e
  exact k β r
theorem wseq_next {n : MS} {Q : Out → Prop} (k : Wp (n α) Q) : Wp (sSeq sNext n α) Q := by
  rw [wp_seq, wp_next]
  exact k
theorem wif_t {c : MT} {m n : MS} {Q : Out → Prop} (h : c α = some (t, β)) (ht : t = true) (k : Wp (m β) Q) : Wp (sIf c m n α) Q := by
  subst ht
  unfold sIf
  rw [wp_bind, h, wp_some, if_pos rfl]
  exact k
theorem wif_f {c : MT} {m n : MS} {Q : Out → Prop} (h : c α = some (t, β)) (ht : t = false) (k : Wp (n β) Q) : Wp (sIf c m n α) Q := by
  subst ht
  unfold sIf
  rw [wp_bind, h, wp_some, if_neg (by simp)]
  exact k
theorem wsif_t {c : MT} {m n r : MS} {Q : Out → Prop} (h : c α = some (t, β)) (ht : t = true) (k : Wp (sSeq m r β) Q) : Wp (sSeq (sIf c m n) r α) Q := by
  rw [wp_seq] at k ⊢
  exact wif_t h ht k
theorem wsif_f {c : MT} {m n r : MS} {Q : Out → Prop} (h : c α = some (t, β)) (ht : t = false) (k : Wp (sSeq n r β) Q) : Wp (sSeq (sIf c m n) r α) Q := by
  rw [wp_seq] at k ⊢
  exact wif_f h ht k
theorem wret {m : ME} {Q : Out → Prop} (h : m α = some (l, β)) (k : Q (.rt (.one l) β)) : Wp (sRet m α) Q := by
  rw [wp_ret, h, wp_some]
  exact k
theorem frz_r {i : Nat} {m : MS} {o : Out} (h : α[i]? = some (.r false false x)) (k : m (α.set i (.d x)) = some o) : sFrz i m α = some o := by
  unfold sFrz
  rw [h]
  exact k
/-- how a def ends -/
def Qr (r : Rv) (as as' : List AV) (o : Out) : Prop := ∃ ρ β, o = .rt ρ β ∧ resRL β ρ = some r ∧ backP as β = as'
theorem def_u {np nn : Nat} {m : MS} {asv as' : List AV} {r : Rv} (hl : asv.length = np) (h : Wp (m (startA nn asv)) (Qr r asv as')) : mDef np nn m asv = some (r, as') := by
  obtain ⟨o, e, ρ, β, rfl, h1, h2⟩ := h
  unfold mDef
  rw [if_pos hl, e, Option.bind_some]
  dsimp only
  rw [h1, Option.bind_some, h2]
theorem def_n {np nn : Nat} {m : MS} {asv as' : List AV} (hl : asv.length = np) (h : Wp (m (startA nn asv)) fun o => ∃ β, o = .nx β ∧ backP asv β = as') : mDef np nn m asv = some (.one (.d .none), as') := by
  obtain ⟨o, e, β, rfl, h2⟩ := h
  unfold mDef
  rw [if_pos hl, e, Option.bind_some]
  dsimp only
  rw [h2]
/-- a def of data: the data come back as they are -/
theorem resRL_one (h : own β l = some x) : resRL β (.one l) = some (.one (.d x)) := by
  cases l with
  | d y => cases h; rfl
  | s i =>
    have o' : (β[i]?).bind AV.get = some x := h
    obtain ⟨q, e, o2⟩ := bse o'
    cases q <;> first | (cases o2; done) | skip
    cases o2
    have r1 : resL1 β (.s i) = some (.d x) := by
      show (β[i]?).bind _ = _
      rw [e]
      rfl
    show (resL1 β (.s i)).bind _ = _
    rw [r1]
    rfl
theorem qr_one {r : Da} {asv : List AV} (o : own β l = some r) (hb : backP asv β = as') : Qr (.one (.d r)) asv as' (.rt (.one l) β) := ⟨_, _, rfl, resRL_one o, hb⟩
inductive Lp (σ ρ : Type)
  | nx (s : σ)
  | bk (s : σ)
  | rt (r : ρ)
def forU {σ : Type} (f : Da → σ → Option σ) : List Da → σ → Option σ
  | [], s => some s
  | x :: xs, s => (f x s).bind fun s' => forU f xs s'
def forE {σ ρ : Type} (f : Da → σ → Option (Lp σ ρ)) : List Da → σ → Option (Lp σ ρ)
  | [], s => some (.nx s)
  | x :: xs, s => (f x s).bind fun o => match o with
    | .nx s' => forE f xs s'
    | .bk s' => some (.bk s')
    | .rt r => some (.rt r)
theorem forL_u {σ ι : Type} {g : MG} {b : MS} (St : σ → ι → AS) {f : Da → σ → Option σ} (h : ∀ x s i s', f x s = some s' → Wp (g x (St s i)) fun γ => Wp (b γ) fun o => ∃ i', o = .nx (St s' i') ∨ o = .ct (St s' i')) :
    ∀ {xs : List Da} {s s' : σ} {i : ι}, forU f xs s = some s' → Wp (forL g b xs (St s i)) fun o => ∃ i', o = .nx (St s' i')
  | [], s, s', i, e => by
    cases e
    exact ⟨_, rfl, i, rfl⟩
  | x :: xs, s, s', i, e => by
    unfold forU at e
    obtain ⟨s1, e1, e⟩ := bse e
    unfold forL
    rw [wp_bind]
    refine (h x s i s1 e1).mono fun γ hg => ?_
    rw [wp_bind]
    refine hg.mono fun o ho => ?_
    obtain ⟨i', rfl | rfl⟩ := ho
    · exact forL_u St h e
    · exact forL_u St h e
theorem for_u {σ ι : Type} {it : MI} {g : MG} {b : MS} (St : σ → ι → AS) {f : Da → σ → Option σ} {s s' : σ} (i : ι) (hi : it α = some ((xs, []), β)) (e0 : β = St s i) (e : forU f xs s = some s')
    (h : ∀ x s i s', f x s = some s' → Wp (g x (St s i)) fun γ => Wp (b γ) fun o => ∃ i', o = .nx (St s' i') ∨ o = .ct (St s' i')) : Wp (sForD it g b α) fun o => ∃ γ, o = .nx γ ∧ ∃ i', γ = St s' i' := by
  refine for_go hi ?_
  rw [e0]
  refine (forL_u St h e).mono fun o ho => ?_
  obtain ⟨i', rfl⟩ := ho
  exact ⟨_, rfl, i', rfl⟩
theorem forL_e {σ ι ρ : Type} {g : MG} {b : MS} (St : σ → ι → AS) (Qx : ρ → Out → Prop) {f : Da → σ → Option (Lp σ ρ)} (h : ∀ x s i o', f x s = some o' → Wp (g x (St s i)) fun γ => Wp (b γ) fun o => match o' with
      | .nx s' => ∃ i', o = .nx (St s' i') ∨ o = .ct (St s' i')
      | .bk s' => ∃ i', o = .bk (St s' i')
      | .rt r => (∃ ρ' γ', o = .rt ρ' γ') ∧ Qx r o) :
    ∀ {xs : List Da} {s : σ} {o' : Lp σ ρ} {i : ι}, forE f xs s = some o' → Wp (forL g b xs (St s i)) fun o => match o' with
      | .nx s' => ∃ i', o = .nx (St s' i')
      | .bk s' => ∃ i', o = .bk (St s' i')
      | .rt r => (∃ ρ' γ', o = .rt ρ' γ') ∧ Qx r o
  | [], s, o', i, e => by
    cases e
    exact ⟨_, rfl, i, rfl⟩
  | x :: xs, s, o', i, e => by
    unfold forE at e
    obtain ⟨o1, e1, e⟩ := bse e
    unfold forL
    rw [wp_bind]
    refine (h x s i o1 e1).mono fun γ hg => ?_
    rw [wp_bind]
    refine hg.mono fun o ho => ?_
    cases o1 with
    | nx s1 =>
      obtain ⟨i', rfl | rfl⟩ := ho
      · exact forL_e St Qx h e
      · exact forL_e St Qx h e
    | bk s1 =>
      cases e
      obtain ⟨i', rfl⟩ := ho
      exact ⟨_, rfl, i', rfl⟩
    | rt r =>
      cases e
      obtain ⟨⟨ρ', γ', rfl⟩, hq⟩ := ho
      exact ⟨_, rfl, ⟨ρ', γ', rfl⟩, hq⟩
theorem for_go2 {i : MI} {g : MG} {b : MS} {xs : List Da} {Q : Out → Prop} (hi : i α = some ((xs, []), α1)) (h : Wp (forL g b xs α1) fun o => match o with
    | .nx γ => Q (.nx γ)
    | .bk γ => Q (.nx γ)
    | .ct γ => Q (.nx γ)
    | .rt r γ => Q (.rt r γ)) : Wp (sForD i g b α) Q := by
  unfold sForD
  rw [wp_bind, hi, wp_some, wp_bind]
  dsimp only
  rw [lockA_nil]
  refine h.mono fun o ho => ?_
  rw [wp_some]
  have fr : o.freed α1 [] = match o with
      | .nx γ => .nx γ
      | .bk γ => .nx γ
      | .ct γ => .nx γ
      | .rt r γ => .rt r γ := by
    cases o <;> (simp only [Out.freed, freeA_nil])
  rw [fr]
  cases o <;> exact ho
/-- a loop that may end early, or end all -/
theorem for_e {σ ι ρ : Type} {it : MI} {g : MG} {b : MS} (St : σ → ι → AS) (Qx : ρ → Out → Prop) {f : Da → σ → Option (Lp σ ρ)} {s : σ} {o' : Lp σ ρ} (i : ι) (hi : it α = some ((xs, []), β)) (e0 : β = St s i) (e : forE f xs s = some o')
    (h : ∀ x s i o', f x s = some o' → Wp (g x (St s i)) fun γ => Wp (b γ) fun o => match o' with
      | .nx s' => ∃ i', o = .nx (St s' i') ∨ o = .ct (St s' i')
      | .bk s' => ∃ i', o = .bk (St s' i')
      | .rt r => (∃ ρ' γ', o = .rt ρ' γ') ∧ Qx r o) : Wp (sForD it g b α) fun o => match o' with
      | .nx s' => ∃ γ, o = .nx γ ∧ ∃ i', γ = St s' i'
      | .bk s' => ∃ γ, o = .nx γ ∧ ∃ i', γ = St s' i'
      | .rt r => (∃ ρ' γ', o = .rt ρ' γ') ∧ Qx r o := by
  refine for_go2 hi ?_
  rw [e0]
  refine (forL_e St Qx h e).mono fun o ho => ?_
  cases o' with
  | nx s1 =>
    obtain ⟨i', rfl⟩ := ho
    exact ⟨_, rfl, i', rfl⟩
  | bk s1 =>
    obtain ⟨i', rfl⟩ := ho
    exact ⟨_, rfl, i', rfl⟩
  | rt r =>
    obtain ⟨⟨ρ', γ', rfl⟩, hq⟩ := ho
    exact ⟨⟨ρ', γ', rfl⟩, hq⟩
theorem wg {g : MG} {b : MS} {Q : Out → Prop} (h : g x α = some β) (k : Wp (b β) Q) : Wp (g x α) fun γ => Wp (b γ) Q := ⟨_, h, k⟩
theorem star_u {ma : ME} {mr : MA} (h : ma α = some (l, β)) (o : own β l = some x) (hx : unT x = some xs) (g : mr β = some (ls, γ)) : aStar ma mr α = some (xs.map Lc.d ++ ls, γ) := by
  cases unT_eq hx
  unfold aStar
  rw [h, Option.bind_some, o, Option.bind_some]
  dsimp only
  rw [g, Option.bind_some]
theorem ownstar_u (o : ownA γ ls = some ys) : ownA γ (xs.map Lc.d ++ ls) = some (xs ++ ys) := by
  induction xs with
  | nil => exact o
  | cons x xs ih => exact oc rfl ih
theorem tupL_u {m : MA} (h : m α = some (ls, β)) (o : ownA β ls = some xs) (hl : limU xs = some ys) : eTup m α = some (.d (.tuple ys), β) := by
  obtain ⟨rfl, hk⟩ := limU_eq hl
  exact tupN_go h o hk
theorem asg_u2 {m : ME} {g : MG} (e : v = x) (h : m α = some (l, β)) (o : own β l = some v) (hg : g x β = some γ) : sAsg m g α = some (.nx γ) := asg_u h (e ▸ o) hg
theorem wret_v {m : ME} {Q : Out → Prop} (h : ∃ l, m α = some (l, β) ∧ own β l = some x) (k : ∀ l, own β l = some x → Q (.rt (.one l) β)) : Wp (sRet m α) Q := let ⟨l, e, o⟩ := h; wret e (k l o)
def lpK {σ ρ : Type} : Lp σ ρ → (σ → Option ρ) → Option ρ
  | .nx s, k => k s
  | .bk s, k => k s
  | .rt r, _ => some r
theorem lpK_go {σ ρ : Type} {o : Lp σ ρ} {s : σ} {k : σ → Option ρ} {r : ρ} (h : o = .nx s ∨ o = .bk s) (e : lpK o k = some r) : k s = some r := by
  rcases h with rfl | rfl <;> exact e
theorem seq_for_e {σ ι ρ : Type} {it : MI} {g : MG} {b n : MS} {Q : Out → Prop} (St : σ → ι → AS) (Qx : ρ → Out → Prop) {f : Da → σ → Option (Lp σ ρ)} {s : σ} {o' : Lp σ ρ} (i : ι) (hi : it α = some ((xs, []), β)) (e0 : β = St s i) (e : forE f xs s = some o')
    (h : ∀ x s i o', f x s = some o' → Wp (g x (St s i)) fun γ => Wp (b γ) fun o => match o' with
      | .nx s' => ∃ i', o = .nx (St s' i') ∨ o = .ct (St s' i')
      | .bk s' => ∃ i', o = .bk (St s' i')
      | .rt r => (∃ ρ' γ', o = .rt ρ' γ') ∧ Qx r o)
    (k : ∀ s', (o' = .nx s' ∨ o' = .bk s') → ∀ i', Wp (n (St s' i')) Q) (kr : ∀ r, o' = .rt r → ∀ o, (∃ ρ' γ', o = .rt ρ' γ') → Qx r o → Q o) : Wp (sSeq (sForD it g b) n α) Q := by
  rw [wp_seq]
  refine (for_e St Qx i hi e0 e h).mono fun o ho => ?_
  cases o' with
  | nx s1 => obtain ⟨γ, rfl, i', rfl⟩ := ho; exact k s1 (.inl rfl) i'
  | bk s1 => obtain ⟨γ, rfl, i', rfl⟩ := ho; exact k s1 (.inr rfl) i'
  | rt r =>
    obtain ⟨⟨ρ', γ', rfl⟩, hq⟩ := ho
    exact kr r rfl _ ⟨_, _, rfl⟩ hq
noncomputable def uR1 (F : FV) (as : List AV) (i : Nat) : Option (Da × Da) := (uR F as [i]).bind fun y => (un1l y.2).bind fun p => some (y.1, p)
theorem uR1_eq {F : FV} {asv : List AV} {i : Nat} (h : uR1 F asv i = some (x, a)) : uR F asv [i] = some (x, [a]) := by
  unfold uR1 at h
  obtain ⟨⟨y, ys⟩, e, h⟩ := bse h
  obtain ⟨p, e2, h⟩ := bse h
  cases h
  cases un1l_eq e2
  exact e
theorem uR1_of {F : FV} {asv bsv : List AV} {i : Nat} {v : Rv} (h : F asv = some (v, bsv)) (hs : seesA bsv [i] = some [a]) (e : bsv = setAs asv [i] [a]) : uR1 F asv i = some (v.da, a) := by
  unfold uR1
  rw [uR_of h hs e]
  rfl
theorem uC_of {F : FV} {asv bsv : List AV} {v : Rv} (h : F asv = some (v, bsv)) : uC F asv = some v.da := by
  unfold uC
  rw [h]
  rfl
/-- an own thing of an earlier turn, forgotten -/
def sr : Option Da → AV
  | some x => .r false false x
  | none => .un
theorem sr_fix (o : Option Da) : (sr o).isFix = false := by cases o <;> rfl
theorem put_none {as' : List AV} {j : Nat} {q : AV} (hj : β[j]? = some q) (hq : q.isRoot = true) (n : j ∉ ls.filterMap (rootIx β)) : ls.findIdx? (isS j) = none := by
  cases f : ls.findIdx? (isS j) with
  | none => rfl
  | some k =>
    refine (n (List.mem_filterMap.mpr ⟨_, List.mem_of_getElem? (findIdx?_isS f), ?_⟩)).elim
    show (β[j]?).bind _ = _
    rw [hj]
    simp [hq]
theorem put1_u {as' : List AV} {i k : Nat} {q q' : AV} (hi : β[i]? = some q) (hq : q.isRoot = true) (hr : ls.filterMap (rootIx β) = [i]) (hf : ls.findIdx? (isS i) = some k) (ha : as'[k]? = some q') (he : β.set i q' = γ) : putBack β ls as' = γ := by
  rw [← he]
  unfold putBack
  apply List.ext_getElem?
  intro j
  rw [List.getElem?_mapIdx]
  by_cases e : j = i
  · subst e
    rw [hi, List.getElem?_set_self (getElem?_lt hi), Option.map_some, if_pos hq, hf]
    dsimp only
    rw [ha]
    rfl
  · rw [List.getElem?_set_ne (fun z => e z.symm)]
    cases z : β[j]? with
    | none => rfl
    | some r =>
      rw [Option.map_some]
      by_cases hr2 : r.isRoot = true
      · rw [if_pos hr2, put_none (as' := as') z hr2 (by rw [hr]; simpa using e)]
      · rw [if_neg hr2]
theorem iitm_u {m : ME} (h : m α = some (l, β)) (o : own β l = some x) (hx : itemsOf x = some xs) : iItm m α = some ((xs, []), β) := by
  unfold iItm
  rw [h, Option.bind_some, o, Option.bind_some, hx, Option.bind_some]
end
end Vm
namespace Vm
open PySem PySem.Spec PyProof.Rows L2 Gk
section
variable {α α1 β γ : AS} {l : Lc} {ls ks : List Lc} {a b c x y x' : Da} {xs : List Da} {rs : List R1}
theorem aug_u {i : Nat} {f : Da → Da → Option Da} {ma : ME} (h0 : own α (.s i) = some a) (h1 : ma α = some (l, β)) (r : res β l = some b) (hf : f a b = some c) (hs : setD i c β = some γ) : sAug i f ma α = some (.nx γ) := by
  unfold sAug
  rw [h0, Option.bind_some, h1, Option.bind_some, r, Option.bind_some, hf, Option.bind_some, hs, Option.bind_some]
end
end Vm
namespace Vm
open PySem PySem.Spec PyProof.Rows L2 Gk Mth
section
variable {a b c d x y z : Da} {xs ys zs : List Da} {s t : Bool}
theorem asB_b : asB (.bool t) = some t := rfl
theorem asI_i {i : Int} : asI (.int i) = some i := rfl
theorem un2_t : un2 (.tuple [a, b]) = some (a, b) := rfl
theorem un3_t : un3 (.tuple [a, b, c]) = some (a, b, c) := rfl
theorem un4_t : un4 (.tuple [a, b, c, d]) = some (a, b, c, d) := rfl
theorem unT_t : unT (.tuple xs) = some xs := rfl
theorem limU_ok {τ : Type} {xs : List τ} (h : xs.length ≤ LIM) : limU xs = some xs := if_pos h
theorem tru_b : truD (.bool t) = t := rfl
theorem tru_t : truD (.tuple xs) = !xs.isEmpty := rfl
theorem tru_l : truD (.list xs) = !xs.isEmpty := rfl
theorem tru_n : truD .none = false := rfl
theorem isN_n {neg : Bool} : isN neg .none = !neg := rfl
theorem isN_t {neg : Bool} : isN neg (.tuple xs) = neg := rfl
theorem isN_i {neg : Bool} {i : Int} : isN neg (.int i) = neg := rfl
theorem isN_l {neg : Bool} : isN neg (.list xs) = neg := rfl
theorem isi_tt : isiU "tuple" (.tuple xs) = some true := rfl
theorem isi_tl : isiU "tuple" (.list xs) = some false := rfl
theorem isi_ti {i : Int} : isiU "tuple" (.int i) = some false := rfl
theorem isi_tn : isiU "tuple" .none = some false := rfl
theorem isi_ii {i : Int} : isiU "int" (.int i) = some true := rfl
theorem isi_ib : isiU "int" (.bool t) = some true := rfl
theorem isi_is {q : Str} : isiU "int" (.str q) = some false := rfl
theorem isi_bi {i : Int} : isiU "bool" (.int i) = some false := rfl
theorem isi_bb : isiU "bool" (.bool t) = some true := rfl
theorem isi_bs {q : Str} : isiU "bool" (.str q) = some false := rfl
theorem isi_ss {q : Str} : isiU "str" (.str q) = some true := rfl
theorem isi_si {i : Int} : isiU "str" (.int i) = some false := rfl
theorem isi_st : isiU "str" (.tuple xs) = some false := rfl
theorem isi_sn : isiU "str" .none = some false := rfl
theorem isi_it : isiU "int" (.tuple xs) = some false := rfl
theorem isi_bt : isiU "bool" (.tuple xs) = some false := rfl
theorem len_t : fLenB [.tuple xs] = some (.int (xs.length : Int)) := rfl
theorem len_t0 : fLenB [.tuple []] = some (.int 0) := rfl
theorem len_t1 : fLenB [.tuple [a]] = some (.int 1) := rfl
theorem len_t2 : fLenB [.tuple [a, b]] = some (.int 2) := rfl
theorem len_t3 : fLenB [.tuple [a, b, c]] = some (.int 3) := rfl
theorem len_l : fLenB [.list xs] = some (.int (xs.length : Int)) := rfl
theorem len_s {q : Str} : fLenB [.str q] = some (.int (q.length : Int)) := rfl
theorem len_dt {kvs : List (List Key × Da)} : fLenB [.dt kvs] = some (.int (kvs.length : Int)) := rfl
theorem len_dk {kvs : List (Key × Da)} : fLenB [.dk kvs] = some (.int (kvs.length : Int)) := rfl
theorem tup_l : fTuple [.list xs] = some (.tuple xs) := rfl
theorem tup_t : fTuple [.tuple xs] = some (.tuple xs) := rfl
theorem list_l : fList [.list xs] = some xs := rfl
theorem list_t : fList [.tuple xs] = some xs := rfl
theorem it_l : iterU (.list xs) = some xs := rfl
theorem it_t : iterU (.tuple xs) = some xs := rfl
theorem add_i {i j : Int} : fAdd (.int i) (.int j) = some (.int (i + j)) := rfl
theorem sub_i {i j : Int} : fSub (.int i) (.int j) = some (.int (i - j)) := rfl
theorem add_n {i j : Nat} : fAdd (.int (i : Int)) (.int (j : Int)) = some (.int ((i + j : Nat) : Int)) := by rw [add_i]; rfl
theorem add_1 {i : Nat} : fAdd (.int (i : Int)) (.int 1) = some (.int ((i + 1 : Nat) : Int)) := by rw [add_i]; rfl
theorem one_add {i : Nat} : fAdd (.int 1) (.int (i : Int)) = some (.int ((i + 1 : Nat) : Int)) := by rw [add_i]; congr 2; omega
theorem lt_i {i j : Int} : fLt (.int i) (.int j) = some (.bool (decide (i < j))) := rfl
theorem ltA_i {i j : Int} : fLtA (.int i) (.int j) = some (.bool (decide (i < j))) := rfl
theorem le_i {i j : Int} : fLe (.int i) (.int j) = some (.bool (decide (i ≤ j))) := rfl
theorem gt_i {i j : Int} : fGt (.int i) (.int j) = some (.bool (decide (j < i))) := rfl
theorem ge_i {i j : Int} : fGe (.int i) (.int j) = some (.bool (decide (j ≤ i))) := rfl
theorem chain_ll {i j k : Int} : chainU fLe fLe (.int i) (.int j) (.int k) = some (.bool (decide (i ≤ j) && decide (j ≤ k))) := by
  unfold chainU
  rw [le_i, Option.bind_some, asB_b, Option.bind_some, le_i]
  cases decide (i ≤ j) <;> rfl
theorem chain_lt {i j k : Int} : chainU fLe fLt (.int i) (.int j) (.int k) = some (.bool (decide (i ≤ j) && decide (j < k))) := by
  unfold chainU
  rw [le_i, Option.bind_some, asB_b, Option.bind_some, lt_i]
  cases decide (i ≤ j) <;> rfl
theorem eq_i {i j : Int} : fEqS (.int i) (.int j) = some (.bool (i == j)) := by
  unfold fEqS fEqP
  rw [show strs2 (.int i) (.int j) = none from rfl, Option.none_or, show toPy (.int i) = some (.int i) from rfl, Option.bind_some, show toPy (.int j) = some (.int j) from rfl, Option.bind_some, if_pos ⟨rfl, rfl⟩]
  rfl
theorem ne_i {i j : Int} : fNeS (.int i) (.int j) = some (.bool (i != j)) := by
  unfold fNeS fEqP
  rw [show strs2 (.int i) (.int j) = none from rfl, Option.none_or, show toPy (.int i) = some (.int i) from rfl, Option.bind_some, show toPy (.int j) = some (.int j) from rfl, Option.bind_some, if_pos ⟨rfl, rfl⟩]
  rfl
theorem ne_22 : fNeS (.int 2) (.int 2) = some (.bool false) := ne_i
theorem ne_12 : fNeS (.int 1) (.int 2) = some (.bool true) := ne_i
theorem ne_33 : fNeS (.int 3) (.int 3) = some (.bool false) := ne_i
theorem eq_22 : fEqS (.int 2) (.int 2) = some (.bool true) := eq_i
theorem eq_11 : fEqS (.int 1) (.int 1) = some (.bool true) := eq_i
theorem eq_n {i j : Nat} : fEqS (.int (i : Int)) (.int (j : Int)) = some (.bool (i == j)) := by
  rw [eq_i]
  congr 2
  rw [Bool.eq_iff_iff, beq_iff_eq, beq_iff_eq]
  omega
theorem ne_n {i j : Nat} : fNeS (.int (i : Int)) (.int (j : Int)) = some (.bool (i != j)) := by
  rw [ne_i]
  congr 2
  show (!(((i : Nat) : Int) == (j : Int))) = !(i == j)
  congr 1
  rw [Bool.eq_iff_iff, beq_iff_eq, beq_iff_eq]
  omega
theorem le_n {i j : Nat} : fLe (.int (i : Int)) (.int (j : Int)) = some (.bool (decide (i ≤ j))) := by rw [le_i]; congr 2; rw [Bool.eq_iff_iff]; simp
theorem lt_n {i j : Nat} : fLt (.int (i : Int)) (.int (j : Int)) = some (.bool (decide (i < j))) := by rw [lt_i]; congr 2; rw [Bool.eq_iff_iff]; simp
theorem ltA_n {i j : Nat} : fLtA (.int (i : Int)) (.int (j : Int)) = some (.bool (decide (i < j))) := by rw [ltA_i]; congr 2; rw [Bool.eq_iff_iff]; simp
theorem gt_n {i j : Nat} : fGt (.int (i : Int)) (.int (j : Int)) = some (.bool (decide (j < i))) := by rw [gt_i]; congr 2; rw [Bool.eq_iff_iff]; simp
theorem ge_n {i j : Nat} : fGe (.int (i : Int)) (.int (j : Int)) = some (.bool (decide (j ≤ i))) := by rw [ge_i]; congr 2; rw [Bool.eq_iff_iff]; simp
theorem gt_0 {i : Nat} : fGt (.int (i : Int)) (.int 0) = some (.bool (decide (0 < i))) := gt_n (j := 0)
theorem gt_1 {i : Nat} : fGt (.int (i : Int)) (.int 1) = some (.bool (decide (1 < i))) := gt_n (j := 1)
theorem gt_2 {i : Nat} : fGt (.int (i : Int)) (.int 2) = some (.bool (decide (2 < i))) := gt_n (j := 2)
theorem eqn_0 {i : Nat} : fEqS (.int (i : Int)) (.int 0) = some (.bool (i == 0)) := eq_n (j := 0)
theorem eqn_1 {i : Nat} : fEqS (.int (i : Int)) (.int 1) = some (.bool (i == 1)) := eq_n (j := 1)
theorem eqn_2 {i : Nat} : fEqS (.int (i : Int)) (.int 2) = some (.bool (i == 2)) := eq_n (j := 2)
theorem eqn_3 {i : Nat} : fEqS (.int (i : Int)) (.int 3) = some (.bool (i == 3)) := eq_n (j := 3)
theorem nen_3 {i : Nat} : fNeS (.int (i : Int)) (.int 3) = some (.bool (i != 3)) := ne_n (j := 3)
theorem nen_2 {i : Nat} : fNeS (.int (i : Int)) (.int 2) = some (.bool (i != 2)) := ne_n (j := 2)
theorem eq_s {p q : Str} : fEqS (.str p) (.str q) = some (.bool (p == q)) := rfl
theorem ne_s {p q : Str} : fNeS (.str p) (.str q) = some (.bool (!(p == q))) := rfl
theorem ix0 : fSubs (.tuple (x :: xs)) (.int 0) = some x := sub0 x xs
theorem ix1 : fSubs (.tuple (x :: y :: xs)) (.int 1) = some y := sub1 x y xs
theorem ix2 : fSubs (.tuple (x :: y :: z :: xs)) (.int 2) = some z := by
  show atI _ _ = _
  unfold atI ixN
  rw [if_pos (by decide), if_pos (by simp only [List.length_cons]; omega)]
  rfl
theorem ix3 {u : Da} : fSubs (.tuple (x :: y :: z :: u :: xs)) (.int 3) = some u := by
  show atI _ _ = _
  unfold atI ixN
  rw [if_pos (by decide), if_pos (by simp only [List.length_cons]; omega)]
  rfl
theorem ixn {k : Nat} (h : xs[k]? = some x) : fSubs (.tuple xs) (.int (k : Int)) = some x := by
  show atI _ _ = _
  have hk : k < xs.length := getElem?_lt h
  unfold atI ixN
  rw [if_pos (by omega), if_pos (by omega), Int.toNat_natCast, Option.bind_some, h]
theorem ixl {k : Nat} (h : xs[k]? = some x) : fSubs (.list xs) (.int (k : Int)) = some x := by
  show atI _ _ = _
  have hk : k < xs.length := getElem?_lt h
  unfold atI ixN
  rw [if_pos (by omega), if_pos (by omega), Int.toNat_natCast, Option.bind_some, h]
theorem cut2 : fSl none (some 2) (.tuple (x :: y :: xs)) = some (.tuple [x, y]) := by
  show some (Da.tuple (cutD _ _ _)) = _
  congr 2
theorem flatU_m {τ β : Type} {f : Da → Option (List β)} {e : τ → Da} {g : τ → List β} : ∀ {L : List τ}, (∀ x ∈ L, f (e x) = some (g x)) → flatU f (L.map e) = some (L.flatMap g)
  | [], _ => rfl
  | x :: L, h => by
    rw [List.map_cons]
    unfold flatU
    rw [h x (List.mem_cons_self ..), Option.bind_some, flatU_m (L := L) fun y m => h y (List.mem_cons_of_mem _ m), Option.bind_some, List.flatMap_cons]
theorem flatU_1 {τ β : Type} {f : Da → Option (List β)} {e : τ → Da} {g : τ → β} {L : List τ} (h : ∀ x ∈ L, f (e x) = some [g x]) : flatU f (L.map e) = some (L.map g) := by
  rw [flatU_m (g := fun x => [g x]) h, flat_ones]
theorem flatU_f {τ β : Type} {f : Da → Option (List β)} {e : τ → Da} {p : τ → Bool} {g : τ → β} {L : List τ} (h : ∀ x ∈ L, f (e x) = some (cond (p x) [g x] [])) : flatU f (L.map e) = some ((L.filter p).map g) := by
  rw [flatU_m h]
  congr 1
  clear h
  induction L with
  | nil => rfl
  | cons x L ih =>
    rw [List.flatMap_cons, ih, List.filter_cons]
    cases p x <;> rfl
/-- a loop by an invariant of what is done -/
theorem forU_inv {τ σ : Type} {f : Da → σ → Option σ} {e : τ → Da} (J : List τ → σ → Prop) {L : List τ} {s : σ} (h0 : J [] s) (h : ∀ done x rest s, done ++ x :: rest = L → J done s → ∃ s', f (e x) s = some s' ∧ J (done ++ [x]) s') : ∃ s', forU f (L.map e) s = some s' ∧ J L s' := by
  have all : ∀ rest done s, done ++ rest = L → J done s → ∃ s', forU f (rest.map e) s = some s' ∧ J L s' := by
    intro rest
    induction rest with
    | nil => intro done s e1 j; rw [List.append_nil] at e1; subst e1; exact ⟨s, rfl, j⟩
    | cons x rest ih =>
      intro done s e1 j
      obtain ⟨s1, h1, j1⟩ := h done x rest s e1 j
      obtain ⟨s2, h2, j2⟩ := ih (done ++ [x]) s1 (by rw [List.append_assoc]; exact e1) j1
      refine ⟨s2, ?_, j2⟩
      rw [List.map_cons]
      unfold forU
      rw [h1, Option.bind_some, h2]
  exact all L [] s rfl h0
/-- a loop that may end all: by an invariant, or by what it ends with -/
theorem forE_inv {τ σ ρ : Type} {f : Da → σ → Option (Lp σ ρ)} {e : τ → Da} (J : List τ → σ → Prop) (R : ρ → Prop) {L : List τ} {s : σ} (h0 : J [] s)
    (h : ∀ done x rest s, done ++ x :: rest = L → J done s → (∃ s', f (e x) s = some (.nx s') ∧ J (done ++ [x]) s') ∨ ∃ r, f (e x) s = some (.rt r) ∧ R r) : (∃ s', forE f (L.map e) s = some (.nx s') ∧ J L s') ∨ ∃ r, forE f (L.map e) s = some (.rt r) ∧ R r := by
  have all : ∀ rest done s, done ++ rest = L → J done s → (∃ s', forE f (rest.map e) s = some (.nx s') ∧ J L s') ∨ ∃ r, forE f (rest.map e) s = some (.rt r) ∧ R r := by
    intro rest
    induction rest with
    | nil => intro done s e1 j; rw [List.append_nil] at e1; subst e1; exact .inl ⟨s, rfl, j⟩
    | cons x rest ih =>
      intro done s e1 j
      rw [List.map_cons]
      unfold forE
      rcases h done x rest s e1 j with ⟨s1, h1, j1⟩ | ⟨r, h1, hr⟩
      · rw [h1, Option.bind_some]
        exact ih (done ++ [x]) s1 (by rw [List.append_assoc]; exact e1) j1
      · rw [h1, Option.bind_some]
        exact .inr ⟨r, rfl, hr⟩
  exact all L [] s rfl h0
theorem rg1_n {n : Nat} (h : n ≤ 1000000) : rg1U (.int (n : Int)) = some ((List.range n).map fun k : Nat => Da.int (k : Int)) := by
  unfold rg1U
  rw [asI_i, Option.bind_some, if_pos ⟨by omega, by omega⟩, Int.toNat_natCast]
theorem rg2_n {i n : Nat} (h : n ≤ 1000000) (hi : i ≤ 1000000) : rg2U (.int (i : Int)) (.int (n : Int)) = some ((List.range' i (n - i)).map fun k : Nat => Da.int (k : Int)) := by
  unfold rg2U
  rw [asI_i, Option.bind_some, asI_i, Option.bind_some, if_pos ⟨by omega, by omega, by omega, by omega⟩]
  rw [show ((n : Int) - (i : Int)).toNat = n - i by omega, List.range'_eq_map_range, List.map_map]
  rfl
theorem rg2_1 {n : Nat} (h : n ≤ 1000000) : rg2U (.int 1) (.int (n : Int)) = some ((List.range' 1 (n - 1)).map fun k : Nat => Da.int (k : Int)) := rg2_n (i := 1) h (by decide)
theorem lpK_nx {σ ρ : Type} {s : σ} {k : σ → Option ρ} : lpK (.nx s) k = k s := rfl
theorem wpb {τ υ : Type} {o : Option τ} {k : τ → Option υ} {a : τ} {Q : υ → Prop} (e : o = some a) (h : Wp (k a) Q) : Wp (o.bind k) Q := by
  rw [e]
  exact h
theorem wpb_forE {τ σ ρ υ : Type} {f : Da → σ → Option (Lp σ ρ)} {k : Lp σ ρ → Option υ} {Q : υ → Prop} {s : σ} (L : List τ) (e : τ → Da) (J : List τ → σ → Prop) (h0 : J [] s)
    (h : ∀ done x rest s, done ++ x :: rest = L → J done s → Wp (f (e x) s) fun o => ∃ s', o = .nx s' ∧ J (done ++ [x]) s') (fin : ∀ s', J L s' → Wp (k (.nx s')) Q) : Wp ((forE f (L.map e) s).bind k) Q := by
  rcases forE_inv (f := f) (e := e) (L := L) (s := s) J (fun _ => False) h0 (fun done x rest s e1 j => by
    obtain ⟨o, e2, s', rfl, j'⟩ := h done x rest s e1 j
    exact .inl ⟨s', e2, j'⟩) with ⟨s', e1, j⟩ | ⟨r, _, hr⟩
  · exact wpb e1 (fin s' j)
  · exact hr.elim
theorem wpb_forU {τ σ υ : Type} {f : Da → σ → Option σ} {k : σ → Option υ} {Q : υ → Prop} {s : σ} (L : List τ) (e : τ → Da) (J : List τ → σ → Prop) (h0 : J [] s)
    (h : ∀ done x rest s, done ++ x :: rest = L → J done s → Wp (f (e x) s) fun s' => J (done ++ [x]) s') (fin : ∀ s', J L s' → Wp (k s') Q) : Wp ((forU f (L.map e) s).bind k) Q := by
  obtain ⟨s', e1, j⟩ := forU_inv (f := f) (e := e) (L := L) (s := s) J h0 (fun done x rest s e1 j => by
    obtain ⟨s', e2, j'⟩ := h done x rest s e1 j
    exact ⟨s', e2, j'⟩)
  exact wpb e1 (fin s' j)
end
end Vm
namespace Wo
open PySem PySem.Spec PyProof.Rows L2 Gk Vm Mth
def backD (i : Nat) : Da := .tuple [.str (Str.ofString "back"), .int (i : Int)]
end Wo
namespace Wo
open PySem PySem.Spec PyProof.Rows L2 Gk Vm Mth
abbrev Tr3 := Nat × Nat × Nat
abbrev Gn := Tr3 × List Nat
def k3 (x : Tr3) : List Key := [.inl (x.1 : Int), .inl (x.2.1 : Int), .inl (x.2.2 : Int)]
def t3 (x : Tr3) : Da := .tuple [.int (x.1 : Int), .int (x.2.1 : Int), .int (x.2.2 : Int)]
def cnt (P : List Pl) (g : Gn) : Int := ((g.2.countP fun d => decide ((d, g.1.2.2) ∉ P) : Nat) : Int)
def hits (m : Pl) (g : Gn) : Bool := decide (g.1.2.2 = m.2) && decide (m.1 ∈ g.2)
structure NdOk (ND : List (List Key × Da)) (gs : List Gn) : Prop where
  get : ∀ m : Pl, (valA ND (kP m)).getD (.tuple []) = .list ((gs.filter (hits m)).map fun g => t3 g.1) ∨ (valA ND (kP m)).getD (.tuple []) = .tuple ((gs.filter (hits m)).map fun g => t3 g.1)
end Wo
namespace Wo
open PySem PySem.Spec PyProof.Rows L2 Gk Vm Mth
abbrev PostS := Mth.Post Str
abbrev Way := Nat × Str × Nat
/-- what the dict of needs holds -/
structure NdF (n m : Nat) (ND : List (List Key × Da)) (nd : Pl → List Tr3) : Prop where
  get : ∀ x : Pl, valA ND (kP x) = if nd x = [] then none else some (.list ((nd x).map t3))
  ks : ∃ ks : List Pl, ND.map (·.1) = ks.map kP ∧ ks.Nodup ∧ ∀ x ∈ ks, x.1 < n ∧ x.2 < m
theorem NdF.len {n m : Nat} {ND : List (List Key × Da)} {nd : Pl → List Tr3} (h : NdF n m ND nd) : ND.length ≤ n * m := by
  obtain ⟨ks, e, h1, h2⟩ := h.ks
  have := congrArg List.length e
  rw [List.length_map, List.length_map] at this
  rw [this]
  exact box_le h1 h2
def needs (gs : List Gn) (x : Pl) : List Tr3 := (gs.filter (hits x)).map (·.1)
theorem eqS_str (a b : Str) : fEqS (.str a) (.str b) = some (.bool (a == b)) := rfl
end Wo
namespace Wo
open PySem PySem.Spec PyProof.Rows L2 Gk Vm Mth
theorem NdF.ok {n m : Nat} {ND : List (List Key × Da)} {gs : List Gn} (h : NdF n m ND (needs gs)) : NdOk ND gs := ⟨fun x => by
  rw [h.get x]
  by_cases e : needs gs x = []
  · right
    rw [if_pos e]
    unfold needs at e
    have : gs.filter (hits x) = [] := List.map_eq_nil_iff.mp e
    rw [this]
    rfl
  · left
    rw [if_neg e]
    unfold needs
    rw [List.map_map]
    rfl⟩
end Wo
namespace Mth
section
variable (gs : List ((Nat × Nat × Nat) × List Nat)) (G : List Nat) (hi : Nat → List Nat) (ends : List Nat)
/-- a post all of whose arms are there, its place not -/
def Bg (K : List Pl) (x : Pl) : Prop := x ∉ K ∧ ∃ g ∈ gs, x = (g.1.1, g.1.2.1) ∧ ∀ d ∈ g.2, (d, g.1.2.2) ∈ K
def Nx (K : List Pl) (x : Pl) : Prop := x ∉ K ∧ (Bg gs K x ∨ ∃ i, Bg gs K (x.1, i) ∧ x.2 ∈ hi i)
def Ini (x : Pl) : Prop := x.1 ∈ ends ∧ (x.2 ∈ G ∨ ∃ i ∈ G, x.2 ∈ hi i)
/-- what is due behind these rounds -/
def rdAt (fs : List (List Pl)) (x : Pl) : Prop := (fs = [] ∧ Ini G hi ends x) ∨ (fs ≠ [] ∧ Nx gs hi fs.flatten x)
def Rds (fs : List (List Pl)) : Prop := ∀ pre F post, fs = pre ++ F :: post → ∀ x, x ∈ F ↔ rdAt gs G hi ends pre x
variable {gs G hi ends}
theorem Rds.nil : Rds gs G hi ends [] := fun pre F post e => by
  cases pre <;> cases e
end
end Mth
namespace Wo
open PySem PySem.Spec PyProof.Rows L2 Gk Vm Mth
abbrev Fr := List (Pl × Da)
abbrev endD : Da := .tuple [.str (Str.ofString "end")]
abbrev postD : Da := .tuple [.str (Str.ofString "post")]
structure Env where
  posts : List PostS
  ways : List Way
  goods : List Nat
  rowsD : Da
  Hd : List (Key × Da)
  ND : List (List Key × Da)
  many : Nat
  ends : List Nat
end Wo
namespace Wo
open PySem PySem.Spec PyProof.Rows L2 Gk Vm Mth
end Wo
namespace Wo
open PySem PySem.Spec PyProof.Rows L2 Gk Vm Mth
end Wo
namespace Wo
open PySem PySem.Spec PyProof.Rows L2 Gk Vm Mth
end Wo
namespace Vm
open PySem PySem.Spec PyProof.Rows L2 Gk
inductive Tag {τ : Type} (x : τ) : Type
  | mk : Tag x
def bindD {τ υ : Type} (o : Option τ) (f : τ → Option υ) (_ : Tag f) : Option υ := o.bind f
theorem bind_tag {τ υ : Type} {o : Option τ} {f : τ → Option υ} : o.bind f = bindD o f .mk := id rfl
theorem bindD_some {τ υ : Type} {a : τ} {f : τ → Option υ} {t : Tag f} : bindD (some a) f t = f a := id rfl
theorem bindD_none {τ υ : Type} {f : τ → Option υ} {t : Tag f} : bindD none f t = none := id rfl
theorem bindD_back {τ υ : Type} {o : Option τ} {f : τ → Option υ} {t : Tag f} : bindD o f t = o.bind f := id rfl
def WpD {τ : Type} (o : Option τ) (Q : τ → Prop) (_ : Tag Q) : Prop := Wp o Q
theorem wp_tag {τ : Type} {o : Option τ} {Q : τ → Prop} : Wp o Q = WpD o Q .mk := id rfl
theorem wpD_some {τ : Type} {a : τ} {Q : τ → Prop} {t : Tag Q} : WpD (some a) Q t = Q a := wp_some
theorem wpD_none {τ : Type} {Q : τ → Prop} {t : Tag Q} : WpD none Q t = False := wp_none
theorem wpD_bind {τ υ : Type} {o : Option τ} {f : τ → Option υ} {s : Tag f} {Q : υ → Prop} {t : Tag Q} : WpD (bindD o f s) Q t = WpD o (fun a => Wp (f a) Q) .mk := wp_bind
theorem wpD_back {τ : Type} {o : Option τ} {Q : τ → Prop} {t : Tag Q} : WpD o Q t = Wp o Q := id rfl
end Vm
namespace Wo
open PySem PySem.Spec PyProof.Rows L2 Gk Vm
abbrev MM : Int := 2305843009213693951
structure PotOk (g r : Int) : Prop where
  g0 : 0 ≤ g
  r0 : 0 ≤ r
  r1 : r < MM
abbrev pot (fx : Bool) (g r : Int) : AV := .r fx false (.list [.int g, .int r])
theorem take_ok {fx : Bool} {g r n : Int} (h : PotOk g r) (hn : 0 < n) (hn2 : n < 1073741824) :
    Wp (F_law_take [pot fx g r, .d (.int n)]) fun y => ∃ x g' r', y = (.one (.d (.int x)), [pot fx g' r', .d (.int n)]) ∧ 0 ≤ x ∧ x < n ∧ PotOk g' r' := by
  obtain ⟨g0, r0, r1⟩ := h
  by_cases hg : 0 < g
  · refine ⟨_, ?_, g % n, g / n, r, rfl, Int.emod_nonneg _ (by omega), Int.emod_lt_of_pos _ hn, Int.ediv_nonneg g0 (by omega), r0, r1⟩
    (simp [↓wp_tag, ↓bind_tag, wpD_some, wpD_none, wpD_bind, bindD_some, bindD_none, mDef, startA, AV.fixd, sSeq, sIf, tOfE, eOp, eUn, eCB, aNil, aCons, eV, eC, eF, eTup, ownA, resA, res, AV.see, fSubs, Da.isDict, fIx, atI, ixN, fIB, fGt, fLt, fGe, fLe, fI, fAdd, fSub, fMul, fNeg, sAsg, sSetI, sAsgR, setR, Nw.av, Nw.da, rootAt, AV.asR, own, AV.get, fMod, fDiv, setD, setDa, sRet, sRetF, resRL, resL1, backP, AV.isRoot, AV.isFix, AV.flag, eCall, callM, argsOf, argOf, rootIx, putBack, isS, R1.da, Rv.da, fLen, fLenB, fLst, eScLen, eScIx, fLtA, fAbs, fInt, eBig, fPow, sNext, List.filterMap_cons, List.findIdx?_cons, F_law_take, m_law_take, hg, hn, hn2] <;> try simp only [wpD_back, bindD_back])
  · have b1 := Int.emod_nonneg (r * 1181783497276652981 + 12345678910987) (show (2305843009213693951 : Int) ≠ 0 by decide)
    have b2 := Int.emod_lt_of_pos (r * 1181783497276652981 + 12345678910987) (show (0 : Int) < 2305843009213693951 by decide)
    have b3 : r < 18446744073709551616 := by have : MM = 2305843009213693951 := rfl; omega
    have b4 : -18446744073709551616 < r := by omega
    refine ⟨_, ?_, ((r * 1181783497276652981 + 12345678910987) % 2305843009213693951 / 65537 * ((r * 1181783497276652981 + 12345678910987) % 2305843009213693951 % 65537 + 3)) % 2305843009213693921 / 97 % n, g, (r * 1181783497276652981 + 12345678910987) % 2305843009213693951, rfl, Int.emod_nonneg _ (by omega), Int.emod_lt_of_pos _ hn, g0, b1, b2⟩
    generalize hr : (r * 1181783497276652981 + 12345678910987) % 2305843009213693951 = r' at *
    have c1 : -18446744073709551616 < r' / 65537 := by omega
    have c2 : r' / 65537 < 18446744073709551616 := by omega
    (simp [↓wp_tag, ↓bind_tag, wpD_some, wpD_none, wpD_bind, bindD_some, bindD_none, mDef, startA, AV.fixd, sSeq, sIf, tOfE, eOp, eUn, eCB, aNil, aCons, eV, eC, eF, eTup, ownA, resA, res, AV.see, fSubs, Da.isDict, fIx, atI, ixN, fIB, fGt, fLt, fGe, fLe, fI, fAdd, fSub, fMul, fNeg, sAsg, sSetI, sAsgR, setR, Nw.av, Nw.da, rootAt, AV.asR, own, AV.get, fMod, fDiv, setD, setDa, sRet, sRetF, resRL, resL1, backP, AV.isRoot, AV.isFix, AV.flag, eCall, callM, argsOf, argOf, rootIx, putBack, isS, R1.da, Rv.da, fLen, fLenB, fLst, eScLen, eScIx, fLtA, fAbs, fInt, eBig, fPow, sNext, List.filterMap_cons, List.findIdx?_cons, F_law_take, m_law_take, hg, hn, hn2, b3, b4, hr, c1, c2] <;> try simp only [wpD_back, bindD_back])
theorem of_ok {fx : Bool} {g r : Int} {xs : List Da} (h : PotOk g r) (hn : xs ≠ []) (hn2 : xs.length < 1000000000) :
    Wp (F_law_of [pot fx g r, .d (.list xs)]) fun y => ∃ x g' r', y = (.one (.d x), [pot fx g' r', .d (.list xs)]) ∧ x ∈ xs ∧ PotOk g' r' := by
  have hl : 0 < xs.length := List.length_pos_iff.mpr hn
  (simp [↓wp_tag, ↓bind_tag, wpD_some, wpD_none, wpD_bind, bindD_some, bindD_none, mDef, startA, AV.fixd, sSeq, sIf, tOfE, eOp, eUn, eCB, aNil, aCons, eV, eC, eF, eTup, ownA, resA, res, AV.see, fSubs, Da.isDict, fIx, atI, ixN, fIB, fGt, fLt, fGe, fLe, fI, fAdd, fSub, fMul, fNeg, sAsg, sSetI, sAsgR, setR, Nw.av, Nw.da, rootAt, AV.asR, own, AV.get, fMod, fDiv, setD, setDa, sRet, sRetF, resRL, resL1, backP, AV.isRoot, AV.isFix, AV.flag, eCall, callM, argsOf, argOf, rootIx, putBack, isS, R1.da, Rv.da, fLen, fLenB, fLst, eScLen, eScIx, fLtA, fAbs, fInt, eBig, fPow, sNext, List.filterMap_cons, List.findIdx?_cons, F_law_of, m_law_of] <;> try simp only [wpD_back, bindD_back])
  refine (take_ok h (n := xs.length) (by omega) (by omega)).mono ?_
  rintro _ ⟨x, g', r', rfl, h1, h2, h3⟩
  obtain ⟨k, rfl⟩ := Int.eq_ofNat_of_zero_le h1
  have hk : k < xs.length := by omega
  (simp [↓wp_tag, ↓bind_tag, wpD_some, wpD_none, wpD_bind, bindD_some, bindD_none, mDef, startA, AV.fixd, sSeq, sIf, tOfE, eOp, eUn, eCB, aNil, aCons, eV, eC, eF, eTup, ownA, resA, res, AV.see, fSubs, Da.isDict, fIx, atI, ixN, fIB, fGt, fLt, fGe, fLe, fI, fAdd, fSub, fMul, fNeg, sAsg, sSetI, sAsgR, setR, Nw.av, Nw.da, rootAt, AV.asR, own, AV.get, fMod, fDiv, setD, setDa, sRet, sRetF, resRL, resL1, backP, AV.isRoot, AV.isFix, AV.flag, eCall, callM, argsOf, argOf, rootIx, putBack, isS, R1.da, Rv.da, fLen, fLenB, fLst, eScLen, eScIx, fLtA, fAbs, fInt, eBig, fPow, sNext, List.filterMap_cons, List.findIdx?_cons, h1, h2, hk] <;> try simp only [wpD_back, bindD_back])
  exact ⟨_, _, _, ⟨rfl, rfl, rfl⟩, List.getElem_mem hk, h3⟩
theorem wp_pos {τ : Type} {c : Prop} [Decidable c] {a b : Option τ} {Q : τ → Prop} (hc : c) (h : Wp a Q) : Wp (if c then a else b) Q := by rw [if_pos hc]; exact h
theorem small01 {c : Prop} [Decidable c] : (-18446744073709551616 : Int) < (if c then 1 else 0) ∧ (if c then (1 : Int) else 0) < 18446744073709551616 := by split <;> decide
theorem nn01 {c : Prop} [Decidable c] : (0 : Int) ≤ (if c then 1 else 0) := by split <;> decide
noncomputable def potRest : MS := (sSeq (sAsg (eOp fMul (eOp fMod (eCB fAbs (aCons (eV 2) aNil)) eBig) (eCB fInt (aCons (eOp fGe (eCB fAbs (aCons (eV 2) aNil)) (eOp fPow (eC (.int 10)) (eC (.int 18)))) aNil))) (setD 3))
  (sRetF (fLst (aCons (eV 3) (aCons (eOp fMod (eOp fMul (eOp fAdd (eOp fAdd (eOp fMod (eV 2) (eC (.int 2305843009213693951))) (eOp fMul (eOp fMul (eC (.int 7919)) (eV 1)) (eV 1))) (eC (.int 11))) (eC (.int 48271))) (eC (.int 2305843009213693951))) aNil)))))
theorem pot_rest {ns : List Int} {k : Nat} {c : Int} (hk : k ≤ 63) : Wp (potRest [.sc ns, .d (.int (k : Int)), .d (.int c), .un]) fun o => ∃ g r, o = .rt (.nw (.r (.list [.int g, .int r]))) [.sc ns, .d (.int (k : Int)), .d (.int c), .d (.int g)] ∧ PotOk g r := by
  have hb := bigN_pos
  have k1 : 7919 * (k : Int) < 18446744073709551616 := by omega
  have k2 : -18446744073709551616 < 7919 * (k : Int) := by omega
  have l2 : 2 ≤ LIM := by decide
  (simp [↓wp_tag, ↓bind_tag, wpD_some, wpD_none, wpD_bind, bindD_some, bindD_none, mDef, startA, AV.fixd, sSeq, sIf, tOfE, eOp, eUn, eCB, aNil, aCons, eV, eC, eF, eTup, ownA, resA, res, AV.see, fSubs, Da.isDict, fIx, atI, ixN, fIB, fGt, fLt, fGe, fLe, fI, fAdd, fSub, fMul, fNeg, sAsg, sSetI, sAsgR, setR, Nw.av, Nw.da, rootAt, AV.asR, own, AV.get, fMod, fDiv, setD, setDa, sRet, sRetF, resRL, resL1, backP, AV.isRoot, AV.isFix, AV.flag, eCall, callM, argsOf, argOf, rootIx, putBack, isS, R1.da, Rv.da, fLen, fLenB, fLst, eScLen, eScIx, fLtA, fAbs, fInt, eBig, fPow, sNext, List.filterMap_cons, List.findIdx?_cons, potRest, hb, k1, k2, l2] <;> try simp only [wpD_back, bindD_back])
  refine wp_pos (.inr small01) ?_
  (simp [↓wp_tag, ↓bind_tag, wpD_some, wpD_none, wpD_bind, bindD_some, bindD_none, mDef, startA, AV.fixd, sSeq, sIf, tOfE, eOp, eUn, eCB, aNil, aCons, eV, eC, eF, eTup, ownA, resA, res, AV.see, fSubs, Da.isDict, fIx, atI, ixN, fIB, fGt, fLt, fGe, fLe, fI, fAdd, fSub, fMul, fNeg, sAsg, sSetI, sAsgR, setR, Nw.av, Nw.da, rootAt, AV.asR, own, AV.get, fMod, fDiv, setD, setDa, sRet, sRetF, resRL, resL1, backP, AV.isRoot, AV.isFix, AV.flag, eCall, callM, argsOf, argOf, rootIx, putBack, isS, R1.da, Rv.da, fLen, fLenB, fLst, eScLen, eScIx, fLtA, fAbs, fInt, eBig, fPow, sNext, List.filterMap_cons, List.findIdx?_cons, k1, k2, l2] <;> try simp only [wpD_back, bindD_back])
  exact ⟨_, _, ⟨⟨rfl, rfl⟩, rfl⟩, Int.mul_nonneg (Int.emod_nonneg _ (by omega)) nn01, Int.emod_nonneg _ (by decide), Int.emod_lt_of_pos _ (by decide)⟩
theorem pot_ok {ns : List Int} {k : Nat} (hk : k ≤ 63) : Wp (F_law_pot [.sc ns, .d (.int (k : Int))]) fun y => ∃ g r, y = (.one (.w (.r (.list [.int g, .int r]))), [.sc ns, .d (.int (k : Int))]) ∧ PotOk g r := by
  have key : Wp (m_law_pot [.sc ns, .d (.int (k : Int)), .un, .un]) fun o => ∃ c g r, o = .rt (.nw (.r (.list [.int g, .int r]))) [.sc ns, .d (.int (k : Int)), .d (.int c), .d (.int g)] ∧ PotOk g r := by
    unfold m_law_pot
    rw [wp_seq]
    refine ⟨.nx [.sc ns, .d (.int (k : Int)), .d (.int (3 * (k : Int) + ns.length)), .un], by (simp [↓wp_tag, ↓bind_tag, wpD_some, wpD_none, wpD_bind, bindD_some, bindD_none, mDef, startA, AV.fixd, sSeq, sIf, tOfE, eOp, eUn, eCB, aNil, aCons, eV, eC, eF, eTup, ownA, resA, res, AV.see, fSubs, Da.isDict, fIx, atI, ixN, fIB, fGt, fLt, fGe, fLe, fI, fAdd, fSub, fMul, fNeg, sAsg, sSetI, sAsgR, setR, Nw.av, Nw.da, rootAt, AV.asR, own, AV.get, fMod, fDiv, setD, setDa, sRet, sRetF, resRL, resL1, backP, AV.isRoot, AV.isFix, AV.flag, eCall, callM, argsOf, argOf, rootIx, putBack, isS, R1.da, Rv.da, fLen, fLenB, fLst, eScLen, eScIx, fLtA, fAbs, fInt, eBig, fPow, sNext, List.filterMap_cons, List.findIdx?_cons] <;> try simp only [wpD_back, bindD_back]), ?_⟩
    show Wp _ _
    rw [wp_seq]
    by_cases h : k < ns.length
    · refine ⟨.nx [.sc ns, .d (.int (k : Int)), .d (.int ns[k]), .un], by (simp [↓wp_tag, ↓bind_tag, wpD_some, wpD_none, wpD_bind, bindD_some, bindD_none, mDef, startA, AV.fixd, sSeq, sIf, tOfE, eOp, eUn, eCB, aNil, aCons, eV, eC, eF, eTup, ownA, resA, res, AV.see, fSubs, Da.isDict, fIx, atI, ixN, fIB, fGt, fLt, fGe, fLe, fI, fAdd, fSub, fMul, fNeg, sAsg, sSetI, sAsgR, setR, Nw.av, Nw.da, rootAt, AV.asR, own, AV.get, fMod, fDiv, setD, setDa, sRet, sRetF, resRL, resL1, backP, AV.isRoot, AV.isFix, AV.flag, eCall, callM, argsOf, argOf, rootIx, putBack, isS, R1.da, Rv.da, fLen, fLenB, fLst, eScLen, eScIx, fLtA, fAbs, fInt, eBig, fPow, sNext, List.filterMap_cons, List.findIdx?_cons, h] <;> try simp only [wpD_back, bindD_back]), ?_⟩
      exact (pot_rest hk).mono fun o ⟨g, r, e, p⟩ => ⟨_, g, r, e, p⟩
    · refine ⟨.nx [.sc ns, .d (.int (k : Int)), .d (.int (3 * (k : Int) + ns.length)), .un], by (simp [↓wp_tag, ↓bind_tag, wpD_some, wpD_none, wpD_bind, bindD_some, bindD_none, mDef, startA, AV.fixd, sSeq, sIf, tOfE, eOp, eUn, eCB, aNil, aCons, eV, eC, eF, eTup, ownA, resA, res, AV.see, fSubs, Da.isDict, fIx, atI, ixN, fIB, fGt, fLt, fGe, fLe, fI, fAdd, fSub, fMul, fNeg, sAsg, sSetI, sAsgR, setR, Nw.av, Nw.da, rootAt, AV.asR, own, AV.get, fMod, fDiv, setD, setDa, sRet, sRetF, resRL, resL1, backP, AV.isRoot, AV.isFix, AV.flag, eCall, callM, argsOf, argOf, rootIx, putBack, isS, R1.da, Rv.da, fLen, fLenB, fLst, eScLen, eScIx, fLtA, fAbs, fInt, eBig, fPow, sNext, List.filterMap_cons, List.findIdx?_cons, h] <;> try simp only [wpD_back, bindD_back]), ?_⟩
      exact (pot_rest hk).mono fun o ⟨g, r, e, p⟩ => ⟨_, g, r, e, p⟩
  obtain ⟨o, e, c, g, r, rfl, p⟩ := key
  refine ⟨_, ?_, g, r, rfl, p⟩
  (simp [↓wp_tag, ↓bind_tag, wpD_some, wpD_none, wpD_bind, bindD_some, bindD_none, mDef, startA, AV.fixd, sSeq, sIf, tOfE, eOp, eUn, eCB, aNil, aCons, eV, eC, eF, eTup, ownA, resA, res, AV.see, fSubs, Da.isDict, fIx, atI, ixN, fIB, fGt, fLt, fGe, fLe, fI, fAdd, fSub, fMul, fNeg, sAsg, sSetI, sAsgR, setR, Nw.av, Nw.da, rootAt, AV.asR, own, AV.get, fMod, fDiv, setD, setDa, sRet, sRetF, resRL, resL1, backP, AV.isRoot, AV.isFix, AV.flag, eCall, callM, argsOf, argOf, rootIx, putBack, isS, R1.da, Rv.da, fLen, fLenB, fLst, eScLen, eScIx, fLtA, fAbs, fInt, eBig, fPow, sNext, List.filterMap_cons, List.findIdx?_cons, F_law_pot, e] <;> try simp only [wpD_back, bindD_back])
end Wo
namespace Wo
open PySem PySem.Spec PyProof.Rows L2 Gk Vm
abbrev OKp (s : Int × Int) : Prop := PotOk s.1 s.2
abbrev un7 : List AV := [.un, .un, .un, .un, .un, .un, .un]
theorem stem_ok {g r k : Int} (h : PotOk g r) : Wp (fLc (cmI (iRg1 (aCons (eCall F_law_take [] (aCons (eV 0) (aCons (eC (.int 6)) aNil))) aNil)) [7] (setD 7) tYesM (mLc (eCall F_law_of [] (aCons (eV 0) (aCons (eF (fListM (aCons (eC (.str (Str.ofString "abcxyz"))) aNil))) aNil))))) (pot true g r :: .d (.int k) :: un7))
    fun y => ∃ (xs : List Da) (g r : Int), y = (.r (.list xs), pot true g r :: .d (.int k) :: un7) ∧ PotOk g r ∧ xs.length ≤ 5 ∧ ∀ x ∈ xs, x ∈ signsD (Str.ofString "abcxyz") := by
  have hi : Wp (iRg1 (aCons (eCall F_law_take [] (aCons (eV 0) (aCons (eC (.int 6)) aNil))) aNil) (pot true g r :: .d (.int k) :: un7)) fun x => ∃ (n : Nat) (g r : Int), x = ((rgN n, []), pot true g r :: .d (.int k) :: un7) ∧ PotOk g r ∧ n ≤ 5 := by
    (simp [↓wp_tag, ↓bind_tag, wpD_some, wpD_none, wpD_bind, bindD_some, bindD_none, mDef, startA, AV.fixd, sSeq, sIf, tOfE, eOp, eUn, eCB, aNil, aCons, eV, eC, eF, eTup, ownA, resA, res, AV.see, fSubs, Da.isDict, fIx, atI, ixN, fIB, fGt, fLt, fGe, fLe, fI, fAdd, fSub, fMul, fNeg, sAsg, sSetI, sAsgR, setR, Nw.av, Nw.da, rootAt, AV.asR, own, AV.get, fMod, fDiv, setD, setDa, sRet, sRetF, resRL, resL1, backP, AV.isRoot, AV.isFix, AV.flag, eCall, callM, argsOf, argOf, rootIx, putBack, isS, R1.da, Rv.da, fLen, fLenB, fLst, eScLen, eScIx, fLtA, fAbs, fInt, eBig, fPow, sNext, List.filterMap_cons, List.findIdx?_cons, iRg1] <;> try simp only [wpD_back, bindD_back])
    refine (take_ok h (n := 6) (by decide) (by decide)).mono ?_
    rintro _ ⟨x, g1, r1, rfl, h1, h2, h3⟩
    obtain ⟨n, rfl⟩ := Int.eq_ofNat_of_zero_le h1
    have b1 : (-4611686018427387904 : Int) ≤ (n : Int) := by omega
    have b2 : (n : Int) < 4611686018427387904 := by omega
    (simp [↓wp_tag, ↓bind_tag, wpD_some, wpD_none, wpD_bind, bindD_some, bindD_none, mDef, startA, AV.fixd, sSeq, sIf, tOfE, eOp, eUn, eCB, aNil, aCons, eV, eC, eF, eTup, ownA, resA, res, AV.see, fSubs, Da.isDict, fIx, atI, ixN, fIB, fGt, fLt, fGe, fLe, fI, fAdd, fSub, fMul, fNeg, sAsg, sSetI, sAsgR, setR, Nw.av, Nw.da, rootAt, AV.asR, own, AV.get, fMod, fDiv, setD, setDa, sRet, sRetF, resRL, resL1, backP, AV.isRoot, AV.isFix, AV.flag, eCall, callM, argsOf, argOf, rootIx, putBack, isS, R1.da, Rv.da, fLen, fLenB, fLst, eScLen, eScIx, fLtA, fAbs, fInt, eBig, fPow, sNext, List.filterMap_cons, List.findIdx?_cons, b1, b2] <;> try simp only [wpD_back, bindD_back])
    exact ⟨n, g1, r1, ⟨rfl, rfl, rfl⟩, h3, by omega⟩
  obtain ⟨_, e, n, g1, r1, rfl, p1, hn⟩ := hi
  refine lc_go (St := fun s : Int × Int => pot true s.1 s.2 :: .d (.int k) :: un7) (OK := OKp) (P := fun _ y => y ∈ signsD (Str.ofString "abcxyz")) (s := (g1, r1)) e p1 (noRoots_of rfl) rfl (by rw [rgN_len]; have : LIM = 1000000 := rfl; omega) ?_ ?_
  · intro y m ⟨ga, ra⟩ hp
    have hz : (Str.ofString "abcxyz").length ≤ 100000 := by decide +kernel
    (simp [↓wp_tag, ↓bind_tag, wpD_some, wpD_none, wpD_bind, bindD_some, bindD_none, mDef, startA, AV.fixd, sSeq, sIf, tOfE, eOp, eUn, eCB, aNil, aCons, eV, eC, eF, eTup, ownA, resA, res, AV.see, fSubs, Da.isDict, fIx, atI, ixN, fIB, fGt, fLt, fGe, fLe, fI, fAdd, fSub, fMul, fNeg, sAsg, sSetI, sAsgR, setR, Nw.av, Nw.da, rootAt, AV.asR, own, AV.get, fMod, fDiv, setD, setDa, sRet, sRetF, resRL, resL1, backP, AV.isRoot, AV.isFix, AV.flag, eCall, callM, argsOf, argOf, rootIx, putBack, isS, R1.da, Rv.da, fLen, fLenB, fLst, eScLen, eScIx, fLtA, fAbs, fInt, eBig, fPow, sNext, List.filterMap_cons, List.findIdx?_cons, fListM, fList, hz] <;> try simp only [wpD_back, bindD_back])
    refine (of_ok (xs := signsD (Str.ofString "abcxyz")) hp (by decide +kernel) (by decide +kernel)).mono ?_
    rintro _ ⟨x, g2, r2, rfl, h1, h2⟩
    (simp [↓wp_tag, ↓bind_tag, wpD_some, wpD_none, wpD_bind, bindD_some, bindD_none, mDef, startA, AV.fixd, sSeq, sIf, tOfE, eOp, eUn, eCB, aNil, aCons, eV, eC, eF, eTup, ownA, resA, res, AV.see, fSubs, Da.isDict, fIx, atI, ixN, fIB, fGt, fLt, fGe, fLe, fI, fAdd, fSub, fMul, fNeg, sAsg, sSetI, sAsgR, setR, Nw.av, Nw.da, rootAt, AV.asR, own, AV.get, fMod, fDiv, setD, setDa, sRet, sRetF, resRL, resL1, backP, AV.isRoot, AV.isFix, AV.flag, eCall, callM, argsOf, argOf, rootIx, putBack, isS, R1.da, Rv.da, fLen, fLenB, fLst, eScLen, eScIx, fLtA, fAbs, fInt, eBig, fPow, sNext, List.filterMap_cons, List.findIdx?_cons, h1, wipeA] <;> try simp only [wpD_back, bindD_back])
    exact h2
  · rintro ys ⟨g2, r2⟩ h2 pr
    refine ⟨ys, g2, r2, ?_, h2, ?_, all_of_paired pr⟩
    · simp [backA]
    · have := paired_len pr
      rw [rgN_len] at this
      omega
theorem signs_str {zs : List Nat} : ∀ {xs : List Da}, (∀ x ∈ xs, x ∈ zs.map fun c => Da.str ⟨#[c]⟩) → ∃ ys : List Str, xs = ys.map Da.str ∧ ∀ y ∈ ys, ∃ c, y = ⟨#[c]⟩ ∧ c ∈ zs
  | [], _ => ⟨[], rfl, fun y m => (List.not_mem_nil m).elim⟩
  | x :: xs, h => by
    obtain ⟨ys, rfl, hy⟩ := signs_str (xs := xs) fun x m => h x (List.mem_cons_of_mem _ m)
    obtain ⟨c, mc, rfl⟩ := List.mem_map.mp (h x (List.mem_cons_self ..))
    refine ⟨⟨#[c]⟩ :: ys, rfl, fun y m => ?_⟩
    rcases List.mem_cons.mp m with rfl | m
    · exact ⟨c, rfl, mc⟩
    · exact hy y m
theorem sum_ones {ys : List Str} (h : ∀ y ∈ ys, ∃ c, y = ⟨#[c]⟩ ∧ c ∈ lettersS.cps.toList) : (ys.map (·.length)).sum = ys.length := by
  induction ys with
  | nil => rfl
  | cons y r ih =>
    obtain ⟨c, rfl, _⟩ := h y (List.mem_cons_self ..)
    rw [List.map_cons, List.sum_cons, ih fun z hz => h z (List.mem_cons_of_mem _ hz), List.length_cons]
    show 1 + r.length = r.length + 1
    omega
abbrev un6 : List AV := [.un, .un, .un, .un, .un, .un]
theorem names2 {g r k : Int} {z : Str} (h : PotOk g r) (hz : Ls 5 z) : Wp (sAsg (eTup (aCons (eCall F_law_take [] (aCons (eV 0) (aCons (eOp fAdd (eCB fLenB (aCons (eV 2) aNil)) (eC (.int 1))) aNil))) (aCons (eCall F_law_take [] (aCons (eV 0) (aCons (eC (.int 26)) aNil))) (aCons (eCall F_law_of [] (aCons (eV 0) (aCons (eF (fLst (aCons (eC (.int 1)) (aCons (eC (.int 3)) (aCons (eC (.int 5)) (aCons (eC (.int 7)) (aCons (eC (.int 9)) (aCons (eC (.int 11)) aNil)))))))) aNil))) aNil)))) (gTupD 3 (gsCons (setD 3) (gsCons (setD 4) (gsCons (setD 5) gsNil)))) (pot true g r :: .d (.int k) :: .d (.str z) :: un6))
    fun o => ∃ (a b c : Int) (g r : Int), o = .nx [pot true g r, .d (.int k), .d (.str z), .d (.int a), .d (.int b), .d (.int c), .un, .un, .un] ∧ PotOk g r ∧ 0 ≤ a ∧ 0 ≤ b ∧ b < 26 ∧ 0 ≤ c ∧ c ≤ 11 ∧ c % 2 = 1 := by
  have hl := hz.1
  have l6 : 6 ≤ LIM := by decide
  have l3 : 3 ≤ LIM := by decide
  (simp [↓wp_tag, ↓bind_tag, wpD_some, wpD_none, wpD_bind, bindD_some, bindD_none, mDef, startA, AV.fixd, sSeq, sIf, tOfE, eOp, eUn, eCB, aNil, aCons, eV, eC, eF, eTup, ownA, resA, res, AV.see, fSubs, Da.isDict, fIx, atI, ixN, fIB, fGt, fLt, fGe, fLe, fI, fAdd, fSub, fMul, fNeg, sAsg, sSetI, sAsgR, setR, Nw.av, Nw.da, rootAt, AV.asR, own, AV.get, fMod, fDiv, setD, setDa, sRet, sRetF, resRL, resL1, backP, AV.isRoot, AV.isFix, AV.flag, eCall, callM, argsOf, argOf, rootIx, putBack, isS, R1.da, Rv.da, fLen, fLenB, fLst, eScLen, eScIx, fLtA, fAbs, fInt, eBig, fPow, sNext, List.filterMap_cons, List.findIdx?_cons, gTupD, gsCons, gsNil] <;> try simp only [wpD_back, bindD_back])
  refine (take_ok h (n := (z.length : Int) + 1) (by omega) (by omega)).mono ?_
  rintro _ ⟨x, g1, r1, rfl, h1, h2, h3⟩
  (simp [↓wp_tag, ↓bind_tag, wpD_some, wpD_none, wpD_bind, bindD_some, bindD_none, mDef, startA, AV.fixd, sSeq, sIf, tOfE, eOp, eUn, eCB, aNil, aCons, eV, eC, eF, eTup, ownA, resA, res, AV.see, fSubs, Da.isDict, fIx, atI, ixN, fIB, fGt, fLt, fGe, fLe, fI, fAdd, fSub, fMul, fNeg, sAsg, sSetI, sAsgR, setR, Nw.av, Nw.da, rootAt, AV.asR, own, AV.get, fMod, fDiv, setD, setDa, sRet, sRetF, resRL, resL1, backP, AV.isRoot, AV.isFix, AV.flag, eCall, callM, argsOf, argOf, rootIx, putBack, isS, R1.da, Rv.da, fLen, fLenB, fLst, eScLen, eScIx, fLtA, fAbs, fInt, eBig, fPow, sNext, List.filterMap_cons, List.findIdx?_cons] <;> try simp only [wpD_back, bindD_back])
  refine (take_ok h3 (n := 26) (by decide) (by decide)).mono ?_
  rintro _ ⟨y, g2, r2, rfl, h4, h5, h6⟩
  (simp [↓wp_tag, ↓bind_tag, wpD_some, wpD_none, wpD_bind, bindD_some, bindD_none, mDef, startA, AV.fixd, sSeq, sIf, tOfE, eOp, eUn, eCB, aNil, aCons, eV, eC, eF, eTup, ownA, resA, res, AV.see, fSubs, Da.isDict, fIx, atI, ixN, fIB, fGt, fLt, fGe, fLe, fI, fAdd, fSub, fMul, fNeg, sAsg, sSetI, sAsgR, setR, Nw.av, Nw.da, rootAt, AV.asR, own, AV.get, fMod, fDiv, setD, setDa, sRet, sRetF, resRL, resL1, backP, AV.isRoot, AV.isFix, AV.flag, eCall, callM, argsOf, argOf, rootIx, putBack, isS, R1.da, Rv.da, fLen, fLenB, fLst, eScLen, eScIx, fLtA, fAbs, fInt, eBig, fPow, sNext, List.filterMap_cons, List.findIdx?_cons, l6] <;> try simp only [wpD_back, bindD_back])
  refine (of_ok (xs := [.int 1, .int 3, .int 5, .int 7, .int 9, .int 11]) h6 (by simp) (by decide)).mono ?_
  rintro _ ⟨c, g3, r3, rfl, h7, h8⟩
  have hc : ∃ c' : Int, c = .int c' ∧ 0 ≤ c' ∧ c' ≤ 11 ∧ c' % 2 = 1 := by
    simp only [List.mem_cons, List.not_mem_nil, or_false] at h7
    rcases h7 with e | e | e | e | e | e
    · exact ⟨1, e, by decide, by decide, by decide⟩
    · exact ⟨3, e, by decide, by decide, by decide⟩
    · exact ⟨5, e, by decide, by decide, by decide⟩
    · exact ⟨7, e, by decide, by decide, by decide⟩
    · exact ⟨9, e, by decide, by decide, by decide⟩
    · exact ⟨11, e, by decide, by decide, by decide⟩
  obtain ⟨c, rfl, c0, hc, hodd⟩ := hc
  (simp [↓wp_tag, ↓bind_tag, wpD_some, wpD_none, wpD_bind, bindD_some, bindD_none, mDef, startA, AV.fixd, sSeq, sIf, tOfE, eOp, eUn, eCB, aNil, aCons, eV, eC, eF, eTup, ownA, resA, res, AV.see, fSubs, Da.isDict, fIx, atI, ixN, fIB, fGt, fLt, fGe, fLe, fI, fAdd, fSub, fMul, fNeg, sAsg, sSetI, sAsgR, setR, Nw.av, Nw.da, rootAt, AV.asR, own, AV.get, fMod, fDiv, setD, setDa, sRet, sRetF, resRL, resL1, backP, AV.isRoot, AV.isFix, AV.flag, eCall, callM, argsOf, argOf, rootIx, putBack, isS, R1.da, Rv.da, fLen, fLenB, fLst, eScLen, eScIx, fLtA, fAbs, fInt, eBig, fPow, sNext, List.filterMap_cons, List.findIdx?_cons, l3, gTupD, gsCons, gsNil] <;> try simp only [wpD_back, bindD_back])
  exact ⟨x, y, c, g3, r3, ⟨⟨rfl, rfl⟩, rfl, rfl, rfl⟩, h8, h1, h4, h5, c0, hc, hodd⟩
theorem letters_at {j : Int} (h0 : 0 ≤ j) (h1 : j < 26) : ∃ c, (atI (Str.ofString "abcdefghijklmnopqrstuvwxyz").cps.toList j) = some c ∧ c ∈ lettersS.cps.toList ∧ lettersS.cps.toList[j.toNat]? = some c := by
  obtain ⟨n, rfl⟩ := Int.eq_ofNat_of_zero_le h0
  have hl : (Str.ofString "abcdefghijklmnopqrstuvwxyz").cps.toList.length = 26 := by decide +kernel
  have hn : n < (Str.ofString "abcdefghijklmnopqrstuvwxyz").cps.toList.length := by omega
  refine ⟨(Str.ofString "abcdefghijklmnopqrstuvwxyz").cps.toList[n], ?_, List.getElem_mem hn, List.getElem?_eq_getElem hn⟩
  unfold atI ixN
  rw [if_pos h0, hl, if_pos (show (n : Int) < ((26 : Nat) : Int) from h1)]
  simp
theorem letters_inj : ∀ i j : Fin 26, lettersS.cps.toList[i.val]? = lettersS.cps.toList[j.val]? → i = j := by decide +kernel
theorem paired_get {τ υ : Type} {R : τ → υ → Prop} : ∀ {xs : List τ} {ys : List υ}, Paired R xs ys → ∀ (i : Nat) (x : τ), xs[i]? = some x → ∃ y, ys[i]? = some y ∧ R x y
  | _, _, .nil, i, x, h => by simp at h
  | _, _, .cons h t, 0, x, e => by cases e; exact ⟨_, rfl, h⟩
  | _, _, .cons h t, i + 1, x, e => by
    obtain ⟨y, h1, h2⟩ := paired_get t i x (by simpa using e)
    exact ⟨y, by simpa using h1, h2⟩
theorem idx_at {Lt : List Nat} {Q : Nat → Prop} {k : Nat} {cs : List Nat} {b c : Int} (hl : cs.length = k) (pr : Paired (fun x y => ∃ d, y = Da.str ⟨#[d]⟩ ∧ Q d ∧ ∃ j : Nat, x = .int (j : Int) ∧ Lt[((b + c * (j : Int)) % 26).toNat]? = some d) (rgN k) (cs.map fun c => Da.str ⟨#[c]⟩)) (i : Nat) (hi : i < cs.length) :
    Lt[((b + c * (i : Int)) % 26).toNat]? = some cs[i] := by
  have hx : (rgN k)[i]? = some (.int (i : Int)) := by
    unfold rgN
    rw [List.getElem?_map, List.getElem?_range (by omega)]
    rfl
  obtain ⟨y, hy, d, e1, _, j, e2, e3⟩ := paired_get pr i _ hx
  have ej : j = i := by injection e2 with e2; omega
  subst ej
  rw [List.getElem?_map, List.getElem?_eq_getElem hi] at hy
  have e4 : Da.str ⟨#[cs[j]]⟩ = y := Option.some.inj hy
  rw [e1] at e4
  injection e4 with e4
  injection e4 with e4
  have e5 : cs[j] = d := by simpa using e4
  rw [e5]; exact e3
theorem idx_nodup {Lt : List Nat} (inj : ∀ i j : Fin 26, Lt[i.val]? = Lt[j.val]? → i = j) {cs : List Nat} {b c : Int} (hk : cs.length ≤ 26) (c0 : 0 ≤ c) (hc : c ≤ 11) (hodd : c % 2 = 1) (at' : ∀ i (hi : i < cs.length), Lt[((b + c * (i : Int)) % 26).toNat]? = some cs[i]) : cs.Nodup := by
  rw [List.nodup_iff_pairwise_ne, List.pairwise_iff_getElem]
  intro i j hi hj hij heq
  have a1 := at' i hi
  have a2 := at' j hj
  rw [← heq, ← a1] at a2
  have n1 : ((b + c * (i : Int)) % 26).toNat < 26 := by
    have := Int.emod_lt_of_pos (b + c * (i : Int)) (show (0 : Int) < 26 by decide)
    omega
  have n2 : ((b + c * (j : Int)) % 26).toNat < 26 := by
    have := Int.emod_lt_of_pos (b + c * (j : Int)) (show (0 : Int) < 26 by decide)
    omega
  have e6 := inj ⟨_, n2⟩ ⟨_, n1⟩ a2
  injection e6 with e6
  have p1 := Int.emod_nonneg (b + c * (i : Int)) (show (26 : Int) ≠ 0 by decide)
  have p2 := Int.emod_nonneg (b + c * (j : Int)) (show (26 : Int) ≠ 0 by decide)
  have e7 : (b + c * (j : Int)) % 26 = (b + c * (i : Int)) % 26 := by omega
  have hcs : c = 1 ∨ c = 3 ∨ c = 5 ∨ c = 7 ∨ c = 9 ∨ c = 11 := by omega
  clear at' a1 a2 heq e6 p1 p2 n1 n2
  rcases hcs with rfl | rfl | rfl | rfl | rfl | rfl <;> omega
theorem names3 {g r a b c : Int} {k : Nat} {z : Str} (hk : k ≤ 26) (c0 : 0 ≤ c) (hc : c ≤ 11) (hodd : c % 2 = 1) : Wp (sAsg (eF (fLc (cmI (iRg1 (aCons (eV 1) aNil)) [7] (setD 7) tYesM (mLc (eOp fSubs (eC (.str (Str.ofString "abcdefghijklmnopqrstuvwxyz"))) (eOp fMod (eOp fAdd (eV 4) (eOp fMul (eV 5) (eV 7))) (eC (.int 26)))))))) (setD 6) [pot true g r, .d (.int (k : Int)), .d (.str z), .d (.int a), .d (.int b), .d (.int c), .un, .un, .un])
    fun o => ∃ ys : List Nat, o = .nx [pot true g r, .d (.int (k : Int)), .d (.str z), .d (.int a), .d (.int b), .d (.int c), .d (.list (ys.map fun c => .str ⟨#[c]⟩)), .un, .un] ∧ ys.length = k ∧ (∀ c ∈ ys, c ∈ lettersS.cps.toList) ∧ ys.Nodup := by
  rw [wp_asg, wp_eF]
  have e : iRg1 (aCons (eV 1) aNil) [pot true g r, .d (.int (k : Int)), .d (.str z), .d (.int a), .d (.int b), .d (.int c), .un, .un, .un] = some ((rgN k, []), [pot true g r, .d (.int (k : Int)), .d (.str z), .d (.int a), .d (.int b), .d (.int c), .un, .un, .un]) := by
    exact rg1_go (ls := [.s 1]) rfl rfl (by omega)
  refine lc_go (St := fun _ : Unit => [pot true g r, .d (.int (k : Int)), .d (.str z), .d (.int a), .d (.int b), .d (.int c), .un, .un, .un]) (OK := fun _ => True) (P := fun x y => ∃ d, y = .str ⟨#[d]⟩ ∧ d ∈ lettersS.cps.toList ∧ ∃ j : Nat, x = .int (j : Int) ∧ lettersS.cps.toList[((b + c * (j : Int)) % 26).toNat]? = some d) (s := ()) e trivial (noRoots_of rfl) rfl (by rw [rgN_len]; have : LIM = 1000000 := rfl; omega) ?_ ?_
  · intro y m _ _
    obtain ⟨j, hj, rfl⟩ := rgN_mem m
    have c1 : c < 18446744073709551616 := by omega
    have c2 : -18446744073709551616 < c := by omega
    obtain ⟨d, e1, e2, e2b⟩ := letters_at (j := (b + c * (j : Int)) % 26) (Int.emod_nonneg _ (by decide)) (Int.emod_lt_of_pos _ (by decide))
    have e2c : ∃ j' : Nat, Da.int (j : Int) = .int (j' : Int) ∧ lettersS.cps.toList[((b + c * (j' : Int)) % 26).toNat]? = some d := ⟨j, rfl, e2b⟩
    generalize hq : (j : Int) = q at *
    have e3 : fSubs (.str (Str.ofString "abcdefghijklmnopqrstuvwxyz")) (.int ((b + c * q) % 26)) = some (.str ⟨#[d]⟩) := by
      show Option.map _ (atI _ _) = _
      rw [e1]
      rfl
    generalize Str.ofString "abcdefghijklmnopqrstuvwxyz" = zz at *
    rw [show setD 7 (.int q) [pot true g r, .d (.int (k : Int)), .d (.str z), .d (.int a), .d (.int b), .d (.int c), .un, .un, .un] = some [pot true g r, .d (.int (k : Int)), .d (.str z), .d (.int a), .d (.int b), .d (.int c), .un, .d (.int q), .un] from rfl, wp_some]
    have e4 : eOp fSubs (eC (.str zz)) (eOp fMod (eOp fAdd (eV 4) (eOp fMul (eV 5) (eV 7))) (eC (.int 26))) [pot true g r, .d (.int (k : Int)), .d (.str z), .d (.int a), .d (.int b), .d (.int c), .un, .d (.int q), .un] = some (.d (.str ⟨#[d]⟩), [pot true g r, .d (.int (k : Int)), .d (.str z), .d (.int a), .d (.int b), .d (.int c), .un, .d (.int q), .un]) := by
      have e5 : eOp fMod (eOp fAdd (eV 4) (eOp fMul (eV 5) (eV 7))) (eC (.int 26)) [pot true g r, .d (.int (k : Int)), .d (.str z), .d (.int a), .d (.int b), .d (.int c), .un, .d (.int q), .un] = some (.d (.int ((b + c * q) % 26)), [pot true g r, .d (.int (k : Int)), .d (.str z), .d (.int a), .d (.int b), .d (.int c), .un, .d (.int q), .un]) := by
        (simp [↓wp_tag, ↓bind_tag, wpD_some, wpD_none, wpD_bind, bindD_some, bindD_none, mDef, startA, AV.fixd, sSeq, sIf, tOfE, eOp, eUn, eCB, aNil, aCons, eV, eC, eF, eTup, ownA, resA, res, AV.see, fSubs, Da.isDict, fIx, atI, ixN, fIB, fGt, fLt, fGe, fLe, fI, fAdd, fSub, fMul, fNeg, sAsg, sSetI, sAsgR, setR, Nw.av, Nw.da, rootAt, AV.asR, own, AV.get, fMod, fDiv, setD, setDa, sRet, sRetF, resRL, resL1, backP, AV.isRoot, AV.isFix, AV.flag, eCall, callM, argsOf, argOf, rootIx, putBack, isS, R1.da, Rv.da, fLen, fLenB, fLst, eScLen, eScIx, fLtA, fAbs, fInt, eBig, fPow, sNext, List.filterMap_cons, List.findIdx?_cons, c1, c2] <;> try simp only [wpD_back, bindD_back])
      rw [eOp]
      simp only [eC, Option.bind_some, e5, res, e3]
    rw [e4, wp_some, show own _ (Lc.d (.str ⟨#[d]⟩)) = some (.str ⟨#[d]⟩) from rfl, wp_some]
    exact ⟨⟨d, rfl, e2, e2c⟩, (), trivial, rfl⟩
  · rintro ys _ _ pr
    have h1 := all_of_paired (paired_imp (S := fun _ y => ∃ c, y = Da.str ⟨#[c]⟩ ∧ c ∈ lettersS.cps.toList) (fun x y ⟨d, a, b, _⟩ => ⟨d, a, b⟩) pr)
    have h2 := paired_len pr
    rw [rgN_len] at h2
    obtain ⟨cs, rfl, h3⟩ : ∃ cs : List Nat, ys = cs.map (fun c => Da.str ⟨#[c]⟩) ∧ ∀ c ∈ cs, c ∈ lettersS.cps.toList := by
      clear h2 pr
      induction ys with
      | nil => exact ⟨[], rfl, fun c m => (List.not_mem_nil m).elim⟩
      | cons y ys ih =>
        obtain ⟨cs, rfl, h4⟩ := ih fun y m => h1 y (List.mem_cons_of_mem _ m)
        obtain ⟨c, rfl, h5⟩ := h1 y (List.mem_cons_self ..)
        exact ⟨c :: cs, rfl, fun d m => (List.mem_cons.mp m).elim (fun z => by rw [z]; exact h5) (h4 d)⟩
    rw [List.length_map] at h2
    have hnd : cs.Nodup := idx_nodup letters_inj (by omega) c0 hc hodd (idx_at (by omega) pr)
    refine ⟨_, rfl, ?_⟩
    refine ⟨[pot true g r, .d (.int (k : Int)), .d (.str z), .d (.int a), .d (.int b), .d (.int c), .d (.list (cs.map fun c => .str ⟨#[c]⟩)), .un, .un], rfl, cs, rfl, h2.symm, h3, hnd⟩
theorem nm_mid {z : Str} {a : Int} {c : Nat} (hz : Ls 5 z) (ha : 0 ≤ a) (hc : c ∈ lettersS.cps.toList) : Nm (cutS z none (some a) ++ ⟨#[c]⟩ ++ cutS z (some a) none) := by
  obtain ⟨n, rfl⟩ := Int.eq_ofNat_of_zero_le ha
  have l1 := cut_both z n
  have h1 := hz.1
  have one : Ls 1 (⟨#[c]⟩ : Str) := by
    refine ⟨Nat.le_refl 1, fun d m => ?_⟩
    have e : d = c := by simpa using m
    rw [e]
    exact hc
  have all := ((hz.cut none (some (n : Int))).cat one).cat (hz.cut (some (n : Int)) none)
  have len : (cutS z none (some (n : Int)) ++ ⟨#[c]⟩ ++ cutS z (some (n : Int)) none).length = z.length + 1 := by
    rw [strLen_append, strLen_append]
    have : (⟨#[c]⟩ : Str).length = 1 := rfl
    omega
  exact ⟨by rw [len]; omega, by rw [len]; omega, all.2⟩
theorem list_go {i : Nat} {α : AS} {xs : List Da} (h : α[i]? = some (.d (.list xs))) : iAny (eV i) α = some ((xs, []), α) := by
  unfold iAny iLst eV
  simp [h]
end Wo
namespace Wo
open PySem PySem.Spec PyProof.Rows L2 Gk Vm
section
variable {xs : List Da} {A2 A3 A4 A5 A6 A7 : AV} {m : Nat}
theorem word_lc {g r : Int} {mi : MI} (h : PotOk g r) (hx : xs ≠ []) (hl : xs.length < 1000000000) (hm : m ≤ 1000000) (e : mi [pot true g r, .d (.list xs), A2, A3, A4, A5, A6, A7, .un] = some ((rgN m, []), [pot true g r, .d (.list xs), A2, A3, A4, A5, A6, A7, .un])) :
    Wp (fLc (cmI mi [8] (setD 8) tYesM (mLc (eCall F_law_of [] (aCons (eV 0) (aCons (eV 1) aNil))))) [pot true g r, .d (.list xs), A2, A3, A4, A5, A6, A7, .un])
      fun y => ∃ (ys : List Da) (g r : Int), y = (.r (.list ys), [pot true g r, .d (.list xs), A2, A3, A4, A5, A6, A7, .un]) ∧ PotOk g r ∧ ys.length = m ∧ ∀ y ∈ ys, y ∈ xs := by
  refine lc_go (St := fun s : Int × Int => [pot true s.1 s.2, .d (.list xs), A2, A3, A4, A5, A6, A7, .un]) (OK := OKp) (P := fun _ y => y ∈ xs) (s := (g, r)) e h (noRoots_of rfl) rfl (by rw [rgN_len]; exact hm) ?_ ?_
  · intro y m ⟨ga, ra⟩ hp
    (simp [↓wp_tag, ↓bind_tag, wpD_some, wpD_none, wpD_bind, bindD_some, bindD_none, mDef, startA, AV.fixd, sSeq, sIf, tOfE, eOp, eUn, eCB, aNil, aCons, eV, eC, eF, eTup, ownA, resA, res, AV.see, fSubs, Da.isDict, fIx, atI, ixN, fIB, fGt, fLt, fGe, fLe, fI, fAdd, fSub, fMul, fNeg, sAsg, sSetI, sAsgR, setR, Nw.av, Nw.da, rootAt, AV.asR, own, AV.get, fMod, fDiv, setD, setDa, sRet, sRetF, resRL, resL1, backP, AV.isRoot, AV.isFix, AV.flag, eCall, callM, argsOf, argOf, rootIx, putBack, isS, R1.da, Rv.da, fLen, fLenB, fLst, eScLen, eScIx, fLtA, fAbs, fInt, eBig, fPow, sNext, List.filterMap_cons, List.findIdx?_cons] <;> try simp only [wpD_back, bindD_back])
    refine (of_ok (xs := xs) hp hx hl).mono ?_
    rintro _ ⟨x, g2, r2, rfl, h1, h2⟩
    (simp [↓wp_tag, ↓bind_tag, wpD_some, wpD_none, wpD_bind, bindD_some, bindD_none, mDef, startA, AV.fixd, sSeq, sIf, tOfE, eOp, eUn, eCB, aNil, aCons, eV, eC, eF, eTup, ownA, resA, res, AV.see, fSubs, Da.isDict, fIx, atI, ixN, fIB, fGt, fLt, fGe, fLe, fI, fAdd, fSub, fMul, fNeg, sAsg, sSetI, sAsgR, setR, Nw.av, Nw.da, rootAt, AV.asR, own, AV.get, fMod, fDiv, setD, setDa, sRet, sRetF, resRL, resL1, backP, AV.isRoot, AV.isFix, AV.flag, eCall, callM, argsOf, argOf, rootIx, putBack, isS, R1.da, Rv.da, fLen, fLenB, fLst, eScLen, eScIx, fLtA, fAbs, fInt, eBig, fPow, sNext, List.filterMap_cons, List.findIdx?_cons, h1, wipeA] <;> try simp only [wpD_back, bindD_back])
    exact h2
  · rintro ys ⟨g2, r2⟩ h2 pr
    refine ⟨ys, g2, r2, ?_, h2, ?_, all_of_paired pr⟩
    · simp [backA]
    · have := paired_len pr
      rw [rgN_len] at this
      exact this.symm
end
theorem at_mod {ys : List Da} {t : Nat} {q : Nat} (ht : ys.length = t) (t0 : 0 < t) : ∃ y, fSubs (.list ys) (.int ((q : Int) % (t : Int))) = some y ∧ y ∈ ys := by
  have h0 := Int.emod_nonneg (q : Int) (show (t : Int) ≠ 0 by omega)
  have h1 := Int.emod_lt_of_pos (q : Int) (show (0 : Int) < (t : Int) by omega)
  obtain ⟨n, hn⟩ := Int.eq_ofNat_of_zero_le h0
  have hl : n < ys.length := by omega
  refine ⟨ys[n], ?_, List.getElem_mem hl⟩
  show atI ys ((q : Int) % (t : Int)) = _
  rw [hn]
  unfold atI ixN
  rw [if_pos (by omega), if_pos (by omega)]
  simp [hl]
theorem word_ok {fx : Bool} {g r : Int} {names : List Str} {most : Nat} (h : PotOk g r) (hn : names ≠ []) (hl : names.length < 1000000) (hm : most ≤ 1000) :
    Wp (F_law_word [pot fx g r, .d (.list (names.map Da.str)), .d (.int (most : Int))]) fun y => ∃ (rs : List Str) (g r : Int), y = (.one (.d (.tuple (rs.map Da.str))), [pot fx g r, .d (.list (names.map Da.str)), .d (.int (most : Int))]) ∧ PotOk g r ∧ rs.length ≤ most ∧ ∀ z ∈ rs, z ∈ names := by
  generalize hxs : names.map Da.str = xs at *
  have hx : xs ≠ [] := by rw [← hxs]; simpa using hn
  have hl' : xs.length < 1000000000 := by rw [← hxs, List.length_map]; omega
  have fin : ∀ ys : List Da, (∀ y ∈ ys, y ∈ xs) → ∃ rs : List Str, ys = rs.map Da.str ∧ ∀ z ∈ rs, z ∈ names := fun ys hy => strs_of fun y m => by
    have := hy y m
    rw [← hxs] at this
    obtain ⟨z, mz, rfl⟩ := List.mem_map.mp this
    exact ⟨z, rfl, mz⟩
  have l3 : 3 ≤ LIM := by decide
  have key : Wp (m_law_word [pot true g r, .d (.list xs), .d (.int (most : Int)), .un, .un, .un, .un, .un, .un]) fun o => ∃ (ys : List Da) (g r : Int) (α : AS), o = .rt (.one (.d (.tuple ys))) (pot true g r :: α) ∧ PotOk g r ∧ ys.length ≤ most ∧ ∀ y ∈ ys, y ∈ xs := by
    unfold m_law_word
    rw [wp_seq]
    have s1 : Wp (sAsg (eTup (aCons (eCall F_law_take [] (aCons (eV 0) (aCons (eOp fAdd (eV 2) (eC (.int 1))) aNil))) (aCons (eCall F_law_take [] (aCons (eV 0) (aCons (eC (.int 4)) aNil))) (aCons (eOp fAdd (eC (.int 1)) (eCall F_law_take [] (aCons (eV 0) (aCons (eC (.int 3)) aNil)))) aNil)))) (gTupD 3 (gsCons (setD 3) (gsCons (setD 4) (gsCons (setD 5) gsNil)))) [pot true g r, .d (.list xs), .d (.int (most : Int)), .un, .un, .un, .un, .un, .un])
        fun o => ∃ (a : Nat) (b : Int) (c : Nat) (g r : Int), o = .nx [pot true g r, .d (.list xs), .d (.int (most : Int)), .d (.int a), .d (.int b), .d (.int c), .un, .un, .un] ∧ PotOk g r ∧ a ≤ most ∧ 0 < c ∧ c ≤ 3 := by
      generalize hM : (most : Int) = M at *
      (simp [↓wp_tag, ↓bind_tag, wpD_some, wpD_none, wpD_bind, bindD_some, bindD_none, mDef, startA, AV.fixd, sSeq, sIf, tOfE, eOp, eUn, eCB, aNil, aCons, eV, eC, eF, eTup, ownA, resA, res, AV.see, fSubs, Da.isDict, fIx, atI, ixN, fIB, fGt, fLt, fGe, fLe, fI, fAdd, fSub, fMul, fNeg, sAsg, sSetI, sAsgR, setR, Nw.av, Nw.da, rootAt, AV.asR, own, AV.get, fMod, fDiv, setD, setDa, sRet, sRetF, resRL, resL1, backP, AV.isRoot, AV.isFix, AV.flag, eCall, callM, argsOf, argOf, rootIx, putBack, isS, R1.da, Rv.da, fLen, fLenB, fLst, eScLen, eScIx, fLtA, fAbs, fInt, eBig, fPow, sNext, List.filterMap_cons, List.findIdx?_cons, gTupD, gsCons, gsNil] <;> try simp only [wpD_back, bindD_back])
      refine (take_ok h (n := M + 1) (by omega) (by omega)).mono ?_
      rintro _ ⟨x, g1, r1, rfl, h1, h2, h3⟩
      (simp [↓wp_tag, ↓bind_tag, wpD_some, wpD_none, wpD_bind, bindD_some, bindD_none, mDef, startA, AV.fixd, sSeq, sIf, tOfE, eOp, eUn, eCB, aNil, aCons, eV, eC, eF, eTup, ownA, resA, res, AV.see, fSubs, Da.isDict, fIx, atI, ixN, fIB, fGt, fLt, fGe, fLe, fI, fAdd, fSub, fMul, fNeg, sAsg, sSetI, sAsgR, setR, Nw.av, Nw.da, rootAt, AV.asR, own, AV.get, fMod, fDiv, setD, setDa, sRet, sRetF, resRL, resL1, backP, AV.isRoot, AV.isFix, AV.flag, eCall, callM, argsOf, argOf, rootIx, putBack, isS, R1.da, Rv.da, fLen, fLenB, fLst, eScLen, eScIx, fLtA, fAbs, fInt, eBig, fPow, sNext, List.filterMap_cons, List.findIdx?_cons] <;> try simp only [wpD_back, bindD_back])
      refine (take_ok h3 (n := 4) (by decide) (by decide)).mono ?_
      rintro _ ⟨y, g2, r2, rfl, h4, h5, h6⟩
      (simp [↓wp_tag, ↓bind_tag, wpD_some, wpD_none, wpD_bind, bindD_some, bindD_none, mDef, startA, AV.fixd, sSeq, sIf, tOfE, eOp, eUn, eCB, aNil, aCons, eV, eC, eF, eTup, ownA, resA, res, AV.see, fSubs, Da.isDict, fIx, atI, ixN, fIB, fGt, fLt, fGe, fLe, fI, fAdd, fSub, fMul, fNeg, sAsg, sSetI, sAsgR, setR, Nw.av, Nw.da, rootAt, AV.asR, own, AV.get, fMod, fDiv, setD, setDa, sRet, sRetF, resRL, resL1, backP, AV.isRoot, AV.isFix, AV.flag, eCall, callM, argsOf, argOf, rootIx, putBack, isS, R1.da, Rv.da, fLen, fLenB, fLst, eScLen, eScIx, fLtA, fAbs, fInt, eBig, fPow, sNext, List.filterMap_cons, List.findIdx?_cons] <;> try simp only [wpD_back, bindD_back])
      refine (take_ok h6 (n := 3) (by decide) (by decide)).mono ?_
      rintro _ ⟨c, g3, r3, rfl, h7, h8, h9⟩
      obtain ⟨a, ha⟩ := Int.eq_ofNat_of_zero_le h1
      obtain ⟨d, hd⟩ := Int.eq_ofNat_of_zero_le (show 0 ≤ 1 + c by omega)
      (simp [↓wp_tag, ↓bind_tag, wpD_some, wpD_none, wpD_bind, bindD_some, bindD_none, mDef, startA, AV.fixd, sSeq, sIf, tOfE, eOp, eUn, eCB, aNil, aCons, eV, eC, eF, eTup, ownA, resA, res, AV.see, fSubs, Da.isDict, fIx, atI, ixN, fIB, fGt, fLt, fGe, fLe, fI, fAdd, fSub, fMul, fNeg, sAsg, sSetI, sAsgR, setR, Nw.av, Nw.da, rootAt, AV.asR, own, AV.get, fMod, fDiv, setD, setDa, sRet, sRetF, resRL, resL1, backP, AV.isRoot, AV.isFix, AV.flag, eCall, callM, argsOf, argOf, rootIx, putBack, isS, R1.da, Rv.da, fLen, fLenB, fLst, eScLen, eScIx, fLtA, fAbs, fInt, eBig, fPow, sNext, List.filterMap_cons, List.findIdx?_cons, l3, gTupD, gsCons, gsNil] <;> try simp only [wpD_back, bindD_back])
      exact ⟨a, y, d, g3, r3, ⟨⟨rfl, rfl⟩, ha, rfl, hd⟩, h9, by omega, by omega, by omega⟩
    refine s1.mono ?_
    rintro _ ⟨a, b, c, g1, r1, rfl, p1, ha, c0, c1⟩
    dsimp only
    rw [wp_seq, wp_asg, wp_eF]
    refine (word_lc (m := c) p1 hx hl' (by omega) (rg1_go (ls := [.s 5]) rfl rfl (by omega))).mono ?_
    rintro _ ⟨ring, g2, r2, rfl, p2, hring, mring⟩
    refine ⟨_, rfl, [pot true g2 r2, .d (.list xs), .d (.int (most : Int)), .d (.int a), .d (.int b), .d (.int c), .d (.list ring), .un, .un], rfl, ?_⟩
    dsimp only
    rw [wp_seq]
    by_cases hb : b = 0
    · refine sif_true (α1 := [pot true g2 r2, .d (.list xs), .d (.int (most : Int)), .d (.int a), .d (.int b), .d (.int c), .d (.list ring), .un, .un]) (by (simp [↓wp_tag, ↓bind_tag, wpD_some, wpD_none, wpD_bind, bindD_some, bindD_none, mDef, startA, AV.fixd, sSeq, sIf, tOfE, eOp, eUn, eCB, aNil, aCons, eV, eC, eF, eTup, ownA, resA, res, AV.see, fSubs, Da.isDict, fIx, atI, ixN, fIB, fGt, fLt, fGe, fLe, fI, fAdd, fSub, fMul, fNeg, sAsg, sSetI, sAsgR, setR, Nw.av, Nw.da, rootAt, AV.asR, own, AV.get, fMod, fDiv, setD, setDa, sRet, sRetF, resRL, resL1, backP, AV.isRoot, AV.isFix, AV.flag, eCall, callM, argsOf, argOf, rootIx, putBack, isS, R1.da, Rv.da, fLen, fLenB, fLst, eScLen, eScIx, fLtA, fAbs, fInt, eBig, fPow, sNext, List.filterMap_cons, List.findIdx?_cons, eqS_int, hb] <;> try simp only [wpD_back, bindD_back])) ?_
      rw [wp_ret, wp_eCB, wp_aCons, wp_eF]
      refine (word_lc (m := a) p2 hx hl' (by omega) (rg1_go (ls := [.s 3]) rfl rfl (by omega))).mono ?_
      rintro _ ⟨ys, g3, r3, rfl, p3, hys, mys⟩
      rw [wp_aNil]
      exact ⟨_, rfl, _, rfl, ys, g3, r3, _, rfl, p3, by omega, mys⟩
    refine sif_false (α1 := [pot true g2 r2, .d (.list xs), .d (.int (most : Int)), .d (.int a), .d (.int b), .d (.int c), .d (.list ring), .un, .un]) (by (simp [↓wp_tag, ↓bind_tag, wpD_some, wpD_none, wpD_bind, bindD_some, bindD_none, mDef, startA, AV.fixd, sSeq, sIf, tOfE, eOp, eUn, eCB, aNil, aCons, eV, eC, eF, eTup, ownA, resA, res, AV.see, fSubs, Da.isDict, fIx, atI, ixN, fIB, fGt, fLt, fGe, fLe, fI, fAdd, fSub, fMul, fNeg, sAsg, sSetI, sAsgR, setR, Nw.av, Nw.da, rootAt, AV.asR, own, AV.get, fMod, fDiv, setD, setDa, sRet, sRetF, resRL, resL1, backP, AV.isRoot, AV.isFix, AV.flag, eCall, callM, argsOf, argOf, rootIx, putBack, isS, R1.da, Rv.da, fLen, fLenB, fLst, eScLen, eScIx, fLtA, fAbs, fInt, eBig, fPow, sNext, List.filterMap_cons, List.findIdx?_cons, eqS_int, hb] <;> try simp only [wpD_back, bindD_back])) ?_
    rw [wp_next]
    dsimp only
    rw [wp_seq, wp_asgR]
    refine lc_go (St := fun _ : Unit => [pot true g2 r2, .d (.list xs), .d (.int (most : Int)), .d (.int a), .d (.int b), .d (.int c), .d (.list ring), .un, .un]) (OK := fun _ => True) (P := fun _ y => y ∈ xs) (s := ()) (rg1_go (ls := [.s 3]) rfl rfl (by omega)) trivial (noRoots_of rfl) rfl (by rw [rgN_len]; have : LIM = 1000000 := rfl; omega) ?_ ?_
    · intro y m _ _
      obtain ⟨j, hj, rfl⟩ := rgN_mem m
      obtain ⟨y, e1, e2⟩ := at_mod (q := j) hring c0
      have c0' : (0 : Int) < (c : Int) := by omega
      generalize hq : (j : Int) = q at *
      generalize hcc : (c : Int) = cc at *
      rw [show setD 8 (.int q) [pot true g2 r2, .d (.list xs), .d (.int (most : Int)), .d (.int a), .d (.int b), .d (.int cc), .d (.list ring), .un, .un] = some [pot true g2 r2, .d (.list xs), .d (.int (most : Int)), .d (.int a), .d (.int b), .d (.int cc), .d (.list ring), .un, .d (.int q)] from rfl, wp_some]
      have e5 : eOp fMod (eV 8) (eV 5) [pot true g2 r2, .d (.list xs), .d (.int (most : Int)), .d (.int a), .d (.int b), .d (.int cc), .d (.list ring), .un, .d (.int q)] = some (.d (.int (q % cc)), [pot true g2 r2, .d (.list xs), .d (.int (most : Int)), .d (.int a), .d (.int b), .d (.int cc), .d (.list ring), .un, .d (.int q)]) := by
        (simp [↓wp_tag, ↓bind_tag, wpD_some, wpD_none, wpD_bind, bindD_some, bindD_none, mDef, startA, AV.fixd, sSeq, sIf, tOfE, eOp, eUn, eCB, aNil, aCons, eV, eC, eF, eTup, ownA, resA, res, AV.see, fSubs, Da.isDict, fIx, atI, ixN, fIB, fGt, fLt, fGe, fLe, fI, fAdd, fSub, fMul, fNeg, sAsg, sSetI, sAsgR, setR, Nw.av, Nw.da, rootAt, AV.asR, own, AV.get, fMod, fDiv, setD, setDa, sRet, sRetF, resRL, resL1, backP, AV.isRoot, AV.isFix, AV.flag, eCall, callM, argsOf, argOf, rootIx, putBack, isS, R1.da, Rv.da, fLen, fLenB, fLst, eScLen, eScIx, fLtA, fAbs, fInt, eBig, fPow, sNext, List.filterMap_cons, List.findIdx?_cons, c0'] <;> try simp only [wpD_back, bindD_back])
      have e4 : eOp fSubs (eV 6) (eOp fMod (eV 8) (eV 5)) [pot true g2 r2, .d (.list xs), .d (.int (most : Int)), .d (.int a), .d (.int b), .d (.int cc), .d (.list ring), .un, .d (.int q)] = some (.d y, [pot true g2 r2, .d (.list xs), .d (.int (most : Int)), .d (.int a), .d (.int b), .d (.int cc), .d (.list ring), .un, .d (.int q)]) := by
        rw [eOp]
        rw [show eV 6 [pot true g2 r2, .d (.list xs), .d (.int (most : Int)), .d (.int a), .d (.int b), .d (.int cc), .d (.list ring), .un, .d (.int q)] = some (.s 6, [pot true g2 r2, .d (.list xs), .d (.int (most : Int)), .d (.int a), .d (.int b), .d (.int cc), .d (.list ring), .un, .d (.int q)]) from rfl]
        simp only [Option.bind_some, e5, res]
        simp [AV.see, e1]
      rw [e4, wp_some, show own _ (Lc.d y) = some y from rfl, wp_some]
      exact ⟨mring y e2, (), trivial, rfl⟩
    rintro found _ _ pr
    have hf := paired_len pr
    rw [rgN_len] at hf
    have mf := all_of_paired pr
    refine ⟨[pot true g2 r2, .d (.list xs), .d (.int (most : Int)), .d (.int a), .d (.int b), .d (.int c), .d (.list ring), .r false false (.list found), .un], rfl, ?_⟩
    dsimp only
    rw [wp_seq]
    have put : ∀ (g r : Int) (found : List Da) (kk : ME) (kv : Int) (n : Nat), PotOk g r → found.length = a → (∀ y ∈ found, y ∈ xs) → (∀ α, kk α = some (.d (.int kv), α)) → ixN a kv = some n →
        Wp (sSetI 7 (eCall F_law_of [] (aCons (eV 0) (aCons (eV 1) aNil))) kk [pot true g r, .d (.list xs), .d (.int (most : Int)), .d (.int a), .d (.int b), .d (.int c), .d (.list ring), .r false false (.list found), .un])
          fun o => ∃ (found : List Da) (g r : Int), o = .nx [pot true g r, .d (.list xs), .d (.int (most : Int)), .d (.int a), .d (.int b), .d (.int c), .d (.list ring), .r false false (.list found), .un] ∧ PotOk g r ∧ found.length = a ∧ ∀ y ∈ found, y ∈ xs := by
      intro g r found kk kv n p hl mm hk hn
      (simp [↓wp_tag, ↓bind_tag, wpD_some, wpD_none, wpD_bind, bindD_some, bindD_none, mDef, startA, AV.fixd, sSeq, sIf, tOfE, eOp, eUn, eCB, aNil, aCons, eV, eC, eF, eTup, ownA, resA, res, AV.see, fSubs, Da.isDict, fIx, atI, ixN, fIB, fGt, fLt, fGe, fLe, fI, fAdd, fSub, fMul, fNeg, sAsg, sSetI, sAsgR, setR, Nw.av, Nw.da, rootAt, AV.asR, own, AV.get, fMod, fDiv, setD, setDa, sRet, sRetF, resRL, resL1, backP, AV.isRoot, AV.isFix, AV.flag, eCall, callM, argsOf, argOf, rootIx, putBack, isS, R1.da, Rv.da, fLen, fLenB, fLst, eScLen, eScIx, fLtA, fAbs, fInt, eBig, fPow, sNext, List.filterMap_cons, List.findIdx?_cons, hk] <;> try simp only [wpD_back, bindD_back])
      refine (of_ok (xs := xs) p hx hl').mono ?_
      rintro _ ⟨x, g4, r4, rfl, h1, h2⟩
      have hn' : (if 0 ≤ kv then if kv < (found.length : Int) then some kv.toNat else none else if -(found.length : Int) ≤ kv then some (kv + (found.length : Int)).toNat else none) = some n := by
        rw [hl]; exact hn
      (simp [↓wp_tag, ↓bind_tag, wpD_some, wpD_none, wpD_bind, bindD_some, bindD_none, mDef, startA, AV.fixd, sSeq, sIf, tOfE, eOp, eUn, eCB, aNil, aCons, eV, eC, eF, eTup, ownA, resA, res, AV.see, fSubs, Da.isDict, fIx, atI, ixN, fIB, fGt, fLt, fGe, fLe, fI, fAdd, fSub, fMul, fNeg, sAsg, sSetI, sAsgR, setR, Nw.av, Nw.da, rootAt, AV.asR, own, AV.get, fMod, fDiv, setD, setDa, sRet, sRetF, resRL, resL1, backP, AV.isRoot, AV.isFix, AV.flag, eCall, callM, argsOf, argOf, rootIx, putBack, isS, R1.da, Rv.da, fLen, fLenB, fLst, eScLen, eScIx, fLtA, fAbs, fInt, eBig, fPow, sNext, List.filterMap_cons, List.findIdx?_cons, hk, hn'] <;> try simp only [wpD_back, bindD_back])
      refine ⟨_, _, _, ⟨⟨rfl, rfl⟩, rfl⟩, h2, by rw [List.length_set]; exact hl, fun y m => ?_⟩
      rcases List.mem_or_eq_of_mem_set m with z | z
      · exact mm y z
      · rw [z]; exact h1
    have w5 : Wp (sIf (mAnd (tOfE (eOp fGt (eV 4) (eC (.int 1)))) (tOfE (eOp fGt (eV 3) (eC (.int 1))))) (sSetI 7 (eCall F_law_of [] (aCons (eV 0) (aCons (eV 1) aNil))) (eUn fNeg (eC (.int 1)))) sNext [pot true g2 r2, .d (.list xs), .d (.int (most : Int)), .d (.int a), .d (.int b), .d (.int c), .d (.list ring), .r false false (.list found), .un])
        fun o => ∃ (found : List Da) (g r : Int), o = .nx [pot true g r, .d (.list xs), .d (.int (most : Int)), .d (.int a), .d (.int b), .d (.int c), .d (.list ring), .r false false (.list found), .un] ∧ PotOk g r ∧ found.length = a ∧ ∀ y ∈ found, y ∈ xs := by
      by_cases hh : 1 < b ∧ 1 < a
      · refine sif_true (α1 := [pot true g2 r2, .d (.list xs), .d (.int (most : Int)), .d (.int a), .d (.int b), .d (.int c), .d (.list ring), .r false false (.list found), .un]) (by (simp [↓wp_tag, ↓bind_tag, wpD_some, wpD_none, wpD_bind, bindD_some, bindD_none, mDef, startA, AV.fixd, sSeq, sIf, tOfE, eOp, eUn, eCB, aNil, aCons, eV, eC, eF, eTup, ownA, resA, res, AV.see, fSubs, Da.isDict, fIx, atI, ixN, fIB, fGt, fLt, fGe, fLe, fI, fAdd, fSub, fMul, fNeg, sAsg, sSetI, sAsgR, setR, Nw.av, Nw.da, rootAt, AV.asR, own, AV.get, fMod, fDiv, setD, setDa, sRet, sRetF, resRL, resL1, backP, AV.isRoot, AV.isFix, AV.flag, eCall, callM, argsOf, argOf, rootIx, putBack, isS, R1.da, Rv.da, fLen, fLenB, fLst, eScLen, eScIx, fLtA, fAbs, fInt, eBig, fPow, sNext, List.filterMap_cons, List.findIdx?_cons, mAnd, hh.1, show (1 : Int) < (a : Int) by omega] <;> try simp only [wpD_back, bindD_back])) ?_
        refine put g2 r2 found _ (-1) (a - 1) p2 hf.symm mf (fun α => rfl) ?_
        unfold ixN
        rw [if_neg (by decide), if_pos (by omega)]
        congr 1
        omega
      · refine sif_false (α1 := [pot true g2 r2, .d (.list xs), .d (.int (most : Int)), .d (.int a), .d (.int b), .d (.int c), .d (.list ring), .r false false (.list found), .un]) ?_ ?_
        · by_cases hb1 : 1 < b
          · have this : ¬ (1 : Int) < (a : Int) := fun z => hh ⟨hb1, by omega⟩
            (simp [↓wp_tag, ↓bind_tag, wpD_some, wpD_none, wpD_bind, bindD_some, bindD_none, mDef, startA, AV.fixd, sSeq, sIf, tOfE, eOp, eUn, eCB, aNil, aCons, eV, eC, eF, eTup, ownA, resA, res, AV.see, fSubs, Da.isDict, fIx, atI, ixN, fIB, fGt, fLt, fGe, fLe, fI, fAdd, fSub, fMul, fNeg, sAsg, sSetI, sAsgR, setR, Nw.av, Nw.da, rootAt, AV.asR, own, AV.get, fMod, fDiv, setD, setDa, sRet, sRetF, resRL, resL1, backP, AV.isRoot, AV.isFix, AV.flag, eCall, callM, argsOf, argOf, rootIx, putBack, isS, R1.da, Rv.da, fLen, fLenB, fLst, eScLen, eScIx, fLtA, fAbs, fInt, eBig, fPow, sNext, List.filterMap_cons, List.findIdx?_cons, mAnd, hb1, this] <;> try simp only [wpD_back, bindD_back])
          · (simp [↓wp_tag, ↓bind_tag, wpD_some, wpD_none, wpD_bind, bindD_some, bindD_none, mDef, startA, AV.fixd, sSeq, sIf, tOfE, eOp, eUn, eCB, aNil, aCons, eV, eC, eF, eTup, ownA, resA, res, AV.see, fSubs, Da.isDict, fIx, atI, ixN, fIB, fGt, fLt, fGe, fLe, fI, fAdd, fSub, fMul, fNeg, sAsg, sSetI, sAsgR, setR, Nw.av, Nw.da, rootAt, AV.asR, own, AV.get, fMod, fDiv, setD, setDa, sRet, sRetF, resRL, resL1, backP, AV.isRoot, AV.isFix, AV.flag, eCall, callM, argsOf, argOf, rootIx, putBack, isS, R1.da, Rv.da, fLen, fLenB, fLst, eScLen, eScIx, fLtA, fAbs, fInt, eBig, fPow, sNext, List.filterMap_cons, List.findIdx?_cons, mAnd, hb1] <;> try simp only [wpD_back, bindD_back])
        · rw [wp_next]
          exact ⟨found, g2, r2, rfl, p2, hf.symm, mf⟩
    refine w5.mono ?_
    rintro _ ⟨found, g3, r3, rfl, p3, hf, mf⟩
    dsimp only
    rw [wp_seq]
    have w6 : Wp (sIf (mAnd (tOfE (eOp fEqS (eV 4) (eC (.int 3)))) (tOfE (eOp fGt (eV 3) (eC (.int 2))))) (sSetI 7 (eCall F_law_of [] (aCons (eV 0) (aCons (eV 1) aNil))) (eC (.int 0))) sNext [pot true g3 r3, .d (.list xs), .d (.int (most : Int)), .d (.int a), .d (.int b), .d (.int c), .d (.list ring), .r false false (.list found), .un])
        fun o => ∃ (found : List Da) (g r : Int), o = .nx [pot true g r, .d (.list xs), .d (.int (most : Int)), .d (.int a), .d (.int b), .d (.int c), .d (.list ring), .r false false (.list found), .un] ∧ PotOk g r ∧ found.length = a ∧ ∀ y ∈ found, y ∈ xs := by
      by_cases hh : b = 3 ∧ 2 < a
      · refine sif_true (α1 := [pot true g3 r3, .d (.list xs), .d (.int (most : Int)), .d (.int a), .d (.int b), .d (.int c), .d (.list ring), .r false false (.list found), .un]) (by (simp [↓wp_tag, ↓bind_tag, wpD_some, wpD_none, wpD_bind, bindD_some, bindD_none, mDef, startA, AV.fixd, sSeq, sIf, tOfE, eOp, eUn, eCB, aNil, aCons, eV, eC, eF, eTup, ownA, resA, res, AV.see, fSubs, Da.isDict, fIx, atI, ixN, fIB, fGt, fLt, fGe, fLe, fI, fAdd, fSub, fMul, fNeg, sAsg, sSetI, sAsgR, setR, Nw.av, Nw.da, rootAt, AV.asR, own, AV.get, fMod, fDiv, setD, setDa, sRet, sRetF, resRL, resL1, backP, AV.isRoot, AV.isFix, AV.flag, eCall, callM, argsOf, argOf, rootIx, putBack, isS, R1.da, Rv.da, fLen, fLenB, fLst, eScLen, eScIx, fLtA, fAbs, fInt, eBig, fPow, sNext, List.filterMap_cons, List.findIdx?_cons, mAnd, eqS_int, hh.1, show (2 : Int) < (a : Int) by omega] <;> try simp only [wpD_back, bindD_back])) ?_
        refine put g3 r3 found _ 0 0 p3 hf mf (fun α => rfl) ?_
        unfold ixN
        rw [if_pos (by decide), if_pos (by omega)]
        rfl
      · refine sif_false (α1 := [pot true g3 r3, .d (.list xs), .d (.int (most : Int)), .d (.int a), .d (.int b), .d (.int c), .d (.list ring), .r false false (.list found), .un]) ?_ ?_
        · by_cases hb1 : b = 3
          · have this : ¬ (2 : Int) < (a : Int) := fun z => hh ⟨hb1, by omega⟩
            (simp [↓wp_tag, ↓bind_tag, wpD_some, wpD_none, wpD_bind, bindD_some, bindD_none, mDef, startA, AV.fixd, sSeq, sIf, tOfE, eOp, eUn, eCB, aNil, aCons, eV, eC, eF, eTup, ownA, resA, res, AV.see, fSubs, Da.isDict, fIx, atI, ixN, fIB, fGt, fLt, fGe, fLe, fI, fAdd, fSub, fMul, fNeg, sAsg, sSetI, sAsgR, setR, Nw.av, Nw.da, rootAt, AV.asR, own, AV.get, fMod, fDiv, setD, setDa, sRet, sRetF, resRL, resL1, backP, AV.isRoot, AV.isFix, AV.flag, eCall, callM, argsOf, argOf, rootIx, putBack, isS, R1.da, Rv.da, fLen, fLenB, fLst, eScLen, eScIx, fLtA, fAbs, fInt, eBig, fPow, sNext, List.filterMap_cons, List.findIdx?_cons, mAnd, eqS_int, hb1, this] <;> try simp only [wpD_back, bindD_back])
          · (simp [↓wp_tag, ↓bind_tag, wpD_some, wpD_none, wpD_bind, bindD_some, bindD_none, mDef, startA, AV.fixd, sSeq, sIf, tOfE, eOp, eUn, eCB, aNil, aCons, eV, eC, eF, eTup, ownA, resA, res, AV.see, fSubs, Da.isDict, fIx, atI, ixN, fIB, fGt, fLt, fGe, fLe, fI, fAdd, fSub, fMul, fNeg, sAsg, sSetI, sAsgR, setR, Nw.av, Nw.da, rootAt, AV.asR, own, AV.get, fMod, fDiv, setD, setDa, sRet, sRetF, resRL, resL1, backP, AV.isRoot, AV.isFix, AV.flag, eCall, callM, argsOf, argOf, rootIx, putBack, isS, R1.da, Rv.da, fLen, fLenB, fLst, eScLen, eScIx, fLtA, fAbs, fInt, eBig, fPow, sNext, List.filterMap_cons, List.findIdx?_cons, mAnd, eqS_int, hb1] <;> try simp only [wpD_back, bindD_back])
        · rw [wp_next]
          exact ⟨found, g3, r3, rfl, p3, hf, mf⟩
    refine w6.mono ?_
    rintro _ ⟨found, g4, r4, rfl, p4, hf, mf⟩
    exact ⟨_, rfl, found, g4, r4, _, rfl, p4, by omega, mf⟩
  obtain ⟨o, e, ys, g1, r1, α, rfl, p, h1, h2⟩ := key
  obtain ⟨rs, rfl, h3⟩ := fin ys h2
  refine ⟨_, ?_, rs, g1, r1, rfl, p, by rw [List.length_map] at h1; exact h1, h3⟩
  (simp [↓wp_tag, ↓bind_tag, wpD_some, wpD_none, wpD_bind, bindD_some, bindD_none, mDef, startA, AV.fixd, sSeq, sIf, tOfE, eOp, eUn, eCB, aNil, aCons, eV, eC, eF, eTup, ownA, resA, res, AV.see, fSubs, Da.isDict, fIx, atI, ixN, fIB, fGt, fLt, fGe, fLe, fI, fAdd, fSub, fMul, fNeg, sAsg, sSetI, sAsgR, setR, Nw.av, Nw.da, rootAt, AV.asR, own, AV.get, fMod, fDiv, setD, setDa, sRet, sRetF, resRL, resL1, backP, AV.isRoot, AV.isFix, AV.flag, eCall, callM, argsOf, argOf, rootIx, putBack, isS, R1.da, Rv.da, fLen, fLenB, fLst, eScLen, eScIx, fLtA, fAbs, fInt, eBig, fPow, sNext, List.filterMap_cons, List.findIdx?_cons, F_law_word, e] <;> try simp only [wpD_back, bindD_back])
end Wo
namespace Wo
open PySem PySem.Spec PyProof.Rows L2 Gk Vm
end Wo
namespace Wo
open PySem PySem.Spec PyProof.Rows L2 Gk Vm Mth
def wordT (word : List Str) : Da := .tuple (word.map Da.str)
def waysOf (word : List Str) : List Way := (List.range word.length).map fun i => (i, (word[i]?).getD "", i + 1)
theorem sub_at {xs : List Da} {k : Nat} {x : Da} (h : xs[k]? = some x) : fSubs (.tuple xs) (.int (k : Int)) = some x := by
  show atI _ _ = _
  have hk : k < xs.length := getElem?_lt h
  unfold atI ixN
  rw [if_pos (by omega), if_pos (by omega), Int.toNat_natCast, Option.bind_some, h]
end Wo
namespace Wo
open PySem PySem.Spec PyProof.Rows L2 Gk Vm Mth
end Wo
namespace Wo
open PySem PySem.Spec PyProof.Rows L2 Gk Vm Mth
theorem eF_go {mf : MF} {α α1 : AS} {r : Nw} (h : mf α = some (r, α1)) : eF mf α = some (.d r.da, α1) := by
  unfold eF
  rw [h, Option.bind_some]
theorem ret_go {m : ME} {α α1 : AS} {l : Lc} (h : m α = some (l, α1)) : sRet m α = some (.rt (.one l) α1) := by
  unfold sRet
  rw [h, Option.bind_some]
def windsL (word : List Str) (pl : Nat) : List Nat := ((List.range (pl - 1)).map (1 + ·)).filter fun a => decide (word[a - 1]? = word[pl - 1]?)
theorem windsL_mem {word : List Str} {pl a : Nat} : a ∈ windsL word pl ↔ 1 ≤ a ∧ a < pl ∧ word[a - 1]? = word[pl - 1]? := by
  unfold windsL
  rw [List.mem_filter, List.mem_map, decide_eq_true_iff]
  constructor
  · rintro ⟨⟨k, hk, rfl⟩, h⟩
    rw [List.mem_range] at hk
    exact ⟨by omega, by omega, h⟩
  · rintro ⟨h1, h2, h3⟩
    exact ⟨⟨a - 1, List.mem_range.mpr (by omega), by omega⟩, h3⟩
theorem rg2_go {ma : MA} {α α1 : AS} {ls : List Lc} {k : Nat} (e : ma α = some (ls, α1)) (e2 : resA α1 ls = some [.int 1, .int ((k + 1 : Nat) : Int)]) (hk : k ≤ 100000) : iRg2 ma α = some ((((List.range k).map (1 + ·)).map fun b : Nat => Da.int (b : Int), []), α1) := by
  unfold iRg2
  rw [e, Option.bind_some]
  dsimp only
  rw [e2, Option.bind_some]
  dsimp only
  rw [if_pos ⟨by omega, by omega, by omega, by omega⟩]
  have : (((k + 1 : Nat) : Int) - 1).toNat = k := by omega
  rw [this, List.map_map]
  congr 3
theorem winds_ok {word : List Str} {pl : Nat} (h1 : 1 ≤ pl) (h2 : pl ≤ word.length) (hl : word.length ≤ 1000) : F_law_winds [.d (wordT word), .d (.int (pl : Int))] = some (.one (.d (.list ((windsL word pl).map fun b : Nat => Da.int (b : Int)))), [.d (wordT word), .d (.int (pl : Int))]) := by
  have lim : LIM = 1000000 := rfl
  have at' : ∀ a : Nat, 1 ≤ a → a ≤ word.length → fSubs (wordT word) (.int ((a : Int) - 1)) = some (.str ((word[a - 1]?).getD "")) := fun a ha hb => by
    have e : ((a : Int) - 1) = ((a - 1 : Nat) : Int) := by omega
    rw [e]
    refine sub_at ?_
    rw [List.getElem?_map, List.getElem?_eq_getElem (show a - 1 < word.length by omega)]
    rfl
  have lc := lc_filt (i := iRg2 (aCons (eC (.int 1)) (aCons (eV 1) aNil))) (v := 2) (tt := tOfE (eOp fEqS (eOp fSubs (eV 0) (eOp fSub (eV 2) (eC (.int 1)))) (eOp fSubs (eV 0) (eOp fSub (eV 1) (eC (.int 1)))))) (me := eV 2) (α0 := [.d (wordT word), .d (.int (pl : Int)), .un]) (α := [.d (wordT word), .d (.int (pl : Int)), .un]) (q := .un) (xs := ((List.range (pl - 1)).map (1 + ·)).map fun b : Nat => Da.int (b : Int)) (p := fun d => match d with | .int j => decide (word[j.toNat - 1]? = word[pl - 1]?) | _ => false) (f := fun d => d)
    (rg2_go (ls := [.d (.int 1), .s 1]) rfl (by
      show some [Da.int 1, .int (pl : Int)] = _
      congr 4
      omega) (by omega)) rfl rfl (by simp; omega)
    (fun d md => by
      obtain ⟨a, ma, rfl⟩ := List.mem_map.mp md
      obtain ⟨k, hk, rfl⟩ := List.mem_map.mp ma
      rw [List.mem_range] at hk
      have e1 := at' (1 + k) (by omega) (by omega)
      have e2 := at' pl h1 h2
      have tt := tofop_go (f := fEqS) (ma := eOp fSubs (eV 0) (eOp fSub (eV 2) (eC (.int 1)))) (mb := eOp fSubs (eV 0) (eOp fSub (eV 1) (eC (.int 1)))) (α := [.d (wordT word), .d (.int (pl : Int)), .d (.int ((1 + k : Nat) : Int))]) (eop_go (a := wordT word) (b := .int (((1 + k : Nat) : Int) - 1)) rfl (eop_go (a := .int ((1 + k : Nat) : Int)) (b := .int 1) rfl rfl rfl rfl rfl) rfl rfl e1) (eop_go (a := wordT word) (b := .int ((pl : Int) - 1)) rfl (eop_go (a := .int (pl : Int)) (b := .int 1) rfl rfl rfl rfl rfl) rfl rfl e2) rfl rfl (eqS_str _ _)
      have eb : ((word[1 + k - 1]?).getD "" == (word[pl - 1]?).getD "") = decide (word[1 + k - 1]? = word[pl - 1]?) := by
        rw [List.getElem?_eq_getElem (show 1 + k - 1 < word.length by omega), List.getElem?_eq_getElem (show pl - 1 < word.length by omega)]
        rw [Bool.eq_iff_iff, beq_iff_eq, decide_eq_true_iff]
        exact ⟨fun z => by rw [show word[1 + k - 1] = word[pl - 1] from z], fun z => Option.some.inj z⟩
      rw [eb] at tt
      exact tt)
    (fun d md _ => ⟨_, evd (i := 2) (q := .d d) rfl, rfl⟩)
  have e : (((((List.range (pl - 1)).map (1 + ·)).map fun b : Nat => Da.int (b : Int)).filter fun d => match d with | .int j => decide (word[j.toNat - 1]? = word[pl - 1]?) | _ => false).map fun d => d) = (windsL word pl).map fun b : Nat => Da.int (b : Int) := by
    rw [List.map_id', List.filter_map]
    rfl
  rw [e] at lc
  refine def_go (l := .d (.list ((windsL word pl).map fun b : Nat => Da.int (b : Int)))) (α := [.d (wordT word), .d (.int (pl : Int)), .un]) rfl ?_ rfl rfl
  show m_law_winds [.d (wordT word), .d (.int (pl : Int)), .un] = _
  unfold m_law_winds
  exact ret_go (eF_go lc)
abbrev AKey := Nat × Str
def AL (posts : List PostS) (w : List Nat) : List (AKey × Nat) := (posts.zip w).map fun x => ((x.1.c, x.1.nm), x.2)
def armOf (posts : List PostS) (w : List Nat) (x : AKey) : Option Nat := valA (AL posts w) x
def r1 (posts : List PostS) (w : List Nat) (word : List Str) (pl c : Nat) : Option Pl × Pl := ((armOf posts w (c, (word[pl]?).getD "")).map fun d => (d, pl + 1), (c, pl))
def r2 (low pl c : Nat) : Option Pl × Pl := (some (c, low), (c, pl))
def downL (k : Nat) : List Nat := (List.range k).map fun i => k - 1 - i
def R1 (posts : List PostS) (w : List Nat) (word : List Str) (n : Nat) : List (Option Pl × Pl) := (downL word.length).flatMap fun pl => (List.range n).map (r1 posts w word pl)
def R2 (word : List Str) (n : Nat) : List (Option Pl × Pl) := ((List.range word.length).map (1 + ·)).flatMap fun pl => (windsL word pl).flatMap fun low => (List.range n).map (r2 low pl)
end Wo
namespace Wo
open PySem PySem.Spec PyProof.Rows L2 Gk Vm Mth
end Wo
namespace Wo
open PySem PySem.Spec PyProof.Rows L2 Gk Vm Mth
theorem whole_ok (d : Nat) : F_is_whole [.d (.int (d : Int))] = some (.one (.d (.bool true)), [.d (.int (d : Int))]) := by
  refine def_go (l := .d (.bool true)) (α := [.d (.int (d : Int))]) rfl ?_ rfl rfl
  show m_is_whole [.d (.int (d : Int))] = _
  unfold m_is_whole
  refine ret_go ?_
  exact and_go (a := true) (b := true) (isi_go (x := .int (d : Int)) rfl rfl rfl) (fun _ => not_go (b := false) (isi_go (x := .int (d : Int)) rfl rfl rfl)) (fun z => by cases z)
end Wo
namespace Wo
open PySem PySem.Spec PyProof.Rows L2 Gk Vm Mth
abbrev intsD (bs : List Nat) : List Da := bs.map fun b : Nat => Da.int (b : Int)
theorem in_natsL (e : Nat) (bs : List Nat) (neg : Bool) : fIn neg (.int (e : Int)) (.list (intsD bs)) = some (.bool (if neg = true then !decide (e ∈ bs) else decide (e ∈ bs))) := by
  have fl : (bs.map fun b : Nat => Da.int (b : Int)).all flatD = true := by
    rw [List.all_eq_true]
    intro x m
    obtain ⟨b, _, rfl⟩ := List.mem_map.mp m
    rfl
  have an : ((bs.map fun b : Nat => Da.int (b : Int)).any fun y => eqF y (.int (e : Int))) = decide (e ∈ bs) := by
    clear fl
    induction bs with
    | nil => rfl
    | cons b bs ih =>
      rw [List.map_cons, List.any_cons, ih]
      by_cases h : e = b
      · subst h; simp [eqF]
      · have : eqF (.int (b : Int)) (.int (e : Int)) = false := by simp [eqF]; omega
        rw [this]; simp [h]
  unfold fIn fInB
  dsimp only
  rw [if_pos ⟨rfl, fl⟩, an]
  rfl
/-- of the post an arm that keeps to what isn't marked -/
def ArmOk (word : List Str) (M : List Pl) (p : PostS) (d : Nat) : Prop := d ∈ p.arms ∧ ∀ s t, (s, p.nm, t) ∈ waysOf word → (d, t) ∈ M → (p.c, s) ∈ M
end Wo
namespace Wo
open PySem PySem.Spec PyProof.Rows L2 Gk Vm Mth
/-- a world all of whose arms keep to what isn't marked -/
def WorstOk (word : List Str) (M : List Pl) : List PostS → List Nat → Prop
  | [], [] => True
  | p :: ps, d :: w => ArmOk word M p d ∧ WorstOk word M ps w
  | _, _ => False
theorem WorstOk.zip {word : List Str} {M : List Pl} : ∀ {posts : List PostS} {w : List Nat}, WorstOk word M posts w → ∀ x ∈ posts.zip w, ArmOk word M x.1 x.2
  | [], _, _, x, m => by simp at m
  | _ :: _, [], h, _, _ => h.elim
  | p :: ps, d :: w, h, x, m => by
    rw [List.zip_cons_cons] at m
    rcases List.mem_cons.mp m with rfl | m
    · exact h.1
    · exact WorstOk.zip h.2 x m
end Wo
namespace Wo
open PySem PySem.Spec PyProof.Rows L2 Gk Vm Mth
end Wo
namespace Wo
open PySem PySem.Spec PyProof.Rows L2 Gk Vm Mth
section
variable {κ τ : Type} [DecidableEq κ] [DecidableEq τ]
def TD (k : τ → κ) (S : List τ) : List (κ × Da) := S.map fun x => (k x, .bool true)
theorem TD_len {k : τ → κ} {S : List τ} : (TD k S).length = S.length := List.length_map ..
theorem TD_keys {k : τ → κ} {S : List τ} : (TD k S).map (·.1) = S.map k := by unfold TD; rw [List.map_map]; rfl
theorem put_TD {k : τ → κ} (inj : ∀ a b, k a = k b → a = b) (S : List τ) (x : τ) : putD (TD k S) (k x) (.bool true) = TD k (addP S x) := by
  unfold addP putD
  by_cases h : x ∈ S
  · rw [if_pos h, if_pos]
    · unfold TD
      rw [List.map_map]
      apply List.map_congr_left
      intro y _
      simp only [Function.comp]
      split <;> rfl
    · rw [List.any_eq_true]
      exact ⟨(k x, .bool true), List.mem_map.mpr ⟨x, h, rfl⟩, decide_eq_true rfl⟩
  · rw [if_neg h, if_neg]
    · unfold TD
      rw [List.map_append]; rfl
    · intro z
      obtain ⟨y, my, e⟩ := List.any_eq_true.mp z
      obtain ⟨y0, m0, rfl⟩ := List.mem_map.mp my
      have := inj _ _ (of_decide_eq_true e)
      subst this
      exact h m0
end
abbrev kN (b : Nat) : Key := .inl (b : Int)
abbrev kS (z : Str) : Key := .inr z
theorem kN_inj (a b : Nat) (h : kN a = kN b) : a = b := by
  have : (a : Int) = (b : Int) := Sum.inl.inj h
  omega
theorem kS_inj (a b : Str) (h : kS a = kS b) : a = b := Sum.inr.inj h
theorem set_N {S : List Nat} {b : Nat} (h : S.length < LIM) : setDa (.dk (TD kN S)) (.int (b : Int)) (.bool true) = some (.dk (TD kN (addP S b))) := by
  unfold setDa
  dsimp only
  rw [show keyD (.int (b : Int)) = some (kN b) from rfl, Option.bind_some, if_pos (by rw [TD_len]; exact h), put_TD kN_inj]
/-- numbers in order -/
theorem sort_N (S : List Nat) : ∃ cs : List Nat, uSortDK [.dk (TD kN S)] = some (cs.map fun b : Nat => Da.int (b : Int)) ∧ cs.Perm S ∧ cs.Pairwise (· ≤ ·) := by
  obtain ⟨cs, e, h1, h2⟩ := sortK_nats S
  refine ⟨cs, ?_, h1, h2⟩
  unfold uSortDK
  dsimp only
  rw [TD_keys, if_pos (kPy_ints S), e, List.map_map]
  rfl
end Wo
namespace Vm
open PySem PySem.Spec PyProof.Rows L2 Gk Mth
/-- the key that a value is -/
def kvO : Value → Key
  | .int i _ => .inl i
  | .str x _ => .inr x
  | _ => .inl 0
structure SeT (P : Program) (w : World) (es : Array (Int × Value)) (t : SetTable) (ks : List Key) : Prop where
  gd : ∀ e ∈ es.toList, keyIs (kvO e.2) e.2 = true ∧ e.1 = (mixKind P w).hash (kvO e.2)
  ky : (es.toList.map fun e => kvO e.2).Perm ks
  nd : ks.Nodup
  lt : es.size < scanBound
  ft : t.fits es.size = true
  ri : Ris t.place.toList
  ld : w.params.followText "set-order" = true ∨ t.led = true
def SeK (P : Program) (w : World) (h : Heap) (a : Addr) (ks : List Key) : Prop :=
  ∃ o es ep t, h.get? a = some o ∧ o.ExactSet ∧ o.data = .set es ep t ∧ SeT P w es t ks
section
variable {P : Program} {w : World} {A : Around} {E : Value → Shared → Prop} {s : Shared} {a : Addr} {ks : List Key} {es : Array (Int × Value)} {t : SetTable}
theorem SeT.len (T : SeT P w es t ks) : es.size = ks.length := by
  rw [← T.ky.length_eq, List.length_map, Array.length_toList]
theorem SeK.at {h h' : Heap} (R : SeK P w h a ks) (k : ∀ o, h.get? a = some o → h'.get? a = some o) : SeK P w h' a ks :=
  let ⟨o, es, ep, t, ho, r⟩ := R; ⟨o, es, ep, t, k o ho, r⟩
end
end Vm
namespace Vm
open PySem PySem.Spec PyProof.Rows L2 Gk Mth
end Vm
namespace Vm
open PySem PySem.Spec PyProof.Rows L2 Gk
section
variable {α : AS} {γ : Da → AS} {x kd v w : Da} {lk lv : Lc}
/-- what is walked, the last first -/
def revU : Da → Option (List Da)
  | .tuple xs => some xs.reverse
  | .list xs => some xs.reverse
  | _ => none
theorem irv_u {α β : AS} {m : ME} {l : Lc} {x : Da} {xs : List Da} (h : m α = some (l, β)) (o : own β l = some x) (hx : revU x = some xs) : iRv m α = some ((xs, []), β) := by
  unfold iRv
  rw [h, Option.bind_some, o, Option.bind_some]
  cases x <;> cases hx <;> rfl
end
end Vm
namespace Wo
open PySem PySem.Spec PyProof.Rows L2 Gk Vm
end Wo
namespace Vm
open PySem PySem.Spec PyProof.Rows L2 Gk RT
end Vm
namespace PySem.W
open PySem PySem.Calls PyProof.Rows PySem.Spec Builtin
end PySem.W
namespace Vm
open PySem PySem.Spec PyProof.Rows L2 Gk
end Vm
namespace Vm
open PySem PySem.Spec PyProof.Rows L2 Gk
def noF : FV := fun _ => none
end Vm
namespace Vm
open PySem PySem.Spec PyProof.Rows L2 Gk
end Vm
namespace Vm
open PySem PySem.Spec PyProof.Rows L2 Gk PySem.W PySem.Calls PyProof.V
end Vm
namespace Vm
open PySem PySem.W PySem.Spec PyProof.Rows L2 Gk
def valsOf : Da → Option (List Da)
  | .dk kvs => some (kvs.map (·.2))
  | _ => none
def iVal (ma : ME) : MI := fun α => (ma α).bind fun l => (own l.2 l.1).bind fun x => (valsOf x).bind fun ks => some ((ks, []), l.2)
section
variable {K : PySem.W.Frag} {p : List Addr} {H : Hp} {σ : L2.St} {α : AS}
theorem itd_ok {d : Addr} {od : Obj} {kvs : List (Key × V)} {ds : List (Key × Da)} (hd : d ∉ p) (ho : H d = some (.frz od (.dK kvs))) (dz : DzK K p H kvs ds) : ItR K p H σ α (Itd d od kvs) (ds.map (·.2)) [] := ⟨fun p1 H1 σ1 α1 A1 R1 t _ => by
  have h1 := t.fz d od _ hd ho
  refine ⟨fun n x hx => ?_, h1, by rw [List.length_map, ← dz.length]; exact Nat.le_refl _⟩
  have hn : n < kvs.length := by have := getElem?_lt hx; rw [List.length_map, ← dz.length] at this; exact this
  refine ⟨⟨h1, hn⟩, fun v H2 z => ?_⟩
  obtain ⟨rfl, k, e1⟩ := z
  obtain ⟨d', e2, ok, dv⟩ := dz.at e1
  rw [List.getElem?_map, e2] at hx
  cases hx
  exact ⟨Same.refl _, dv.tr t⟩⟩
theorem pi_valsA {X : Cx} {tg e : Expr} {td : TE} {apos cpos : Pos} (he : PE X e td) (hbase : attributeBase e "values" X.env (eval e X.env) = eval e X.env := by rfl) (hline : (apos.endLine == cpos.line) = true := by rfl) :
    PI X tg (.Call (.Attribute e "values" apos) [] [] cpos) (iVals (tLkA td)) := pi_values (pe_lkA he) hbase hline
theorem ref_iVal {td : TE} {ma : ME} (ha : RefE K td ma) : RefI K (iVals (tLkA td)) (iVal ma) := ⟨fun p H σ α A x α' Rr R e h => by
  simp only [iVal, Option.bind_eq_some_iff] at e
  obtain ⟨⟨l, α1⟩, e1, y, e2, ks, e3, e4⟩ := e
  cases e4
  cases y with
  | dk ds0 =>
    cases e3
    refine ha.go p H σ α A l α1 _ R e1 fun p1 H1 A1 v R1 S1 q1 => ?_
    have dz := own_dz R1 q1 e2
    cases dz with
    | dk n r hl ds =>
      rcases r with r | ⟨od, r⟩
      · left
        refine ⟨_, _, rfl, r, trivial, fun od => ⟨_, od, _, rfl, upd_same, ?_⟩⟩
        obtain ⟨R2, S2, t⟩ := rel_lockD (od := od) R1 n r rfl
        exact h p1 _ A1 _ R2 (S1.trans R S2) (itd_ok n upd_same (ds.tr t)) lockable_nil
      · right
        exact ⟨_, od, _, rfl, r, h p1 H1 A1 _ R1 S1 (itd_ok n r ds) lockable_nil⟩
  | _ => cases e3⟩
end
theorem ival_u {α β : AS} {ma : ME} {l : Lc} {x : Da} {xs : List Da} (h : ma α = some (l, β)) (o : own β l = some x) (hx : valsOf x = some xs) : iVal ma α = some ((xs, []), β) := by
  unfold iVal
  rw [h, Option.bind_some]
  dsimp only
  rw [o, Option.bind_some, hx, Option.bind_some]
end Vm
namespace Wo
open PySem PySem.Spec PyProof.Rows L2 Gk Vm
noncomputable def m_greatest_steps : MS := (sSeq (sAsgR 1 (fLst aNil))
  (sSeq (sForD (iRg1 (aCons (eOp fAdd (eCB fLenB (aCons (eV 0) aNil)) (eC (.int 1))) aNil)) (setD 2) (sSeq (sAsg (eF (fDc (cmI (iAny (eCall F_going_places [] (aCons (eV 0) (aCons (eV 2) aNil)))) [3] (setD 3) tYesM (mDc keyD (eOp fSubs (eV 0) (eV 3)) (eOp fAdd (eV 3) (eC (.int 1))))))) (setD 4))
  (sAppend 1 (aCons (eF (fDc (cmI (iAny (eF (fSortDK (aCons (eV 4) aNil)))) [5] (setD 5) tYesM (mDc keyD (eV 5) (eOp fSubs (eV 4) (eV 5)))))) aNil))))
  (sRet (eV 1))))
noncomputable def F_greatest_steps : FV := mDef 1 6 m_greatest_steps
noncomputable def m_count_ends : MS := (sSeq (sAsgR 3 (fLst (aCons (eF (fLc (cmI (iRg1 (aCons (eCB fLenB (aCons (eV 0) aNil)) aNil)) [2] (setD 2) tYesM (mLc (eCB fInt (aCons (eAnd (eOp fGe (eV 1) (eC (.int 0))) (eOp fEqS (eV 2) (eOp fSub (eCB fLenB (aCons (eV 0) aNil)) (eC (.int 1))))) aNil)))))) aNil)))
  (sSeq (sForD (iRg1 (aCons (eV 1) aNil)) (setD 4) (sSeq (sAsg (eOp fSubs (eV 3) (eV 4)) (setD 5))
  (sAppend 3 (aCons (eF (fLc (cmI (iAny (eV 0)) [6] (setD 6) tYesM (mLc (eCB fSum (aCons (eF (fLc (cmI (iVal (eV 6)) [7] (setD 7) tYesM (mLc (eOp fSubs (eV 5) (eV 7)))))) aNil)))))) aNil))))
  (sRet (eV 3))))
noncomputable def F_count_ends : FV := mDef 2 8 m_count_ends
noncomputable def m_count_wound : MS := (sRet (eOp fSubs (eOp fSubs (eCall F_count_ends [] (aCons (eCall F_greatest_steps [] (aCons (eV 0) aNil)) (aCons (eV 1) aNil))) (eUn fNeg (eC (.int 1)))) (eC (.int 0))))
noncomputable def F_count_wound : FV := mDef 2 2 m_count_wound
end Wo
namespace Wo
open PySem PySem.Spec PyProof.Rows L2 Gk Vm
end Wo
namespace Wo
open PySem PySem.Spec PyProof.Rows L2 Gk Vm
noncomputable def u_here_or_back (word : Da) (place : Da) : Option (Da) :=
 (uC F_backs [AV.d word, AV.d place]).bind fun e =>
 (fAdd e (Da.tuple [place])).bind fun e_1 =>
 some e_1
theorem tx_here_or_back {word place r : Da} (h : u_here_or_back word place = some r) : F_here_or_back [AV.d word, AV.d place] = some (.one (.d r), [AV.d word, AV.d place]) := by
  unfold u_here_or_back at h
  refine def_u rfl ?_
  show Wp (m_here_or_back [AV.d word, AV.d place]) _
  unfold m_here_or_back
  replace h := bse h; obtain ⟨e, h_e, h⟩ := h
  replace h := bse h; obtain ⟨e_1, h_e_1, h⟩ := h
  replace h := Option.some.inj h; subst h
  exact wret (eop_go (call_u (asv := [AV.d word, AV.d place]) (acons_go rfl (acons_go rfl rfl)) rfl rfl h_e) (tupN_go (acons_go rfl rfl) (oc rfl rfl) (Nat.le_of_ble_eq_true rfl)) rfl rfl h_e_1) (qr_one rfl rfl)
noncomputable def u_going_places (word : Da) (place : Da) : Option (Da) :=
 (uC F_here_or_back [AV.d word, AV.d place]).bind fun e =>
 (iterU e).bind fun xs =>
 (flatU (fun at_ =>
 (fLenB [word]).bind fun e_1 =>
 (fLtA at_ e_1).bind fun e_2 =>
 (asB e_2).bind fun t =>
 cond t (some [at_]) (some [])) xs).bind fun ys =>
 (limU ys).bind fun ys_1 =>
 (fTuple [(Da.list ys_1)]).bind fun e_3 =>
 some e_3
theorem tx_going_places {word place r : Da} (h : u_going_places word place = some r) : F_going_places [AV.d word, AV.d place] = some (.one (.d r), [AV.d word, AV.d place]) := by
  unfold u_going_places at h
  refine def_u rfl ?_
  show Wp (m_going_places [AV.d word, AV.d place, .un]) _
  unfold m_going_places
  replace h := bse h; obtain ⟨e, h_e, h⟩ := h
  replace h := bse h; obtain ⟨xs, h_xs, h⟩ := h
  replace h := bse h; obtain ⟨ys, h_ys, h⟩ := h
  replace h := bse h; obtain ⟨ys_1, h_ys_1, h⟩ := h
  replace h := bse h; obtain ⟨e_3, h_e_3, h⟩ := h
  replace h := Option.some.inj h; subst h
  exact wret (cb_u (acons_go (ef_u (flc_u (cm_u (W := [AV.d word, AV.d place, .un]) (iany_u (call_u (asv := [AV.d word, AV.d place]) (acons_go rfl (acons_go rfl rfl)) rfl rfl h_e) rfl h_xs) (nr_cons rfl rfl nr_nil) rfl (fun at_ y h => by (replace h := bse h; obtain ⟨e_1, h_e_1, h⟩ := h; replace h := bse h; obtain ⟨e_2, h_e_2, h⟩ := h; replace h := bse h; obtain ⟨t, h_t, h⟩ := h; replace h := csp h; rcases h with ⟨hb, h⟩ | ⟨hb, h⟩; (replace h := Option.some.inj h; subst h; exact ⟨_, _, (setD_go rfl rfl), (tofe_u (eop_go rfl (cb_u (acons_go rfl rfl) (rc rfl rfl) h_e_1) rfl rfl h_e_2) rfl h_t), fun _ => (mlc_u rfl rfl), fun z => Bool.noConfusion (hb.symm.trans z), rfl⟩); (replace h := Option.some.inj h; subst h; exact ⟨_, _, (setD_go rfl rfl), (tofe_u (eop_go rfl (cb_u (acons_go rfl rfl) (rc rfl rfl) h_e_1) rfl rfl h_e_2) rfl h_t), fun z => Bool.noConfusion (hb.symm.trans z), fun _ => rfl, rfl⟩))) h_ys) h_ys_1)) rfl) (rc rfl rfl) h_e_3) (qr_one rfl rfl)
end Wo
namespace Wo
open PySem PySem.Spec PyProof.Rows L2 Gk Vm
end Wo
namespace Wo
open PySem PySem.Spec PyProof.Rows L2 Gk Vm Mth
def PotU (p : Da) : Prop := ∃ g r, p = .list [.int g, .int r] ∧ PotOk g r
abbrev pA (fx : Bool) (p : Da) : AV := .r fx false p
/-- a call that draws: what is told, the pot behind it -/
theorem draw {F : FV} {fx : Bool} {p : Da} {as : List AV} {y : Rv × List AV} {x : Da} {g r : Int} (e : F (pA fx p :: as) = some y) (ey : y = (.one (.d x), pot fx g r :: as)) : uR1 F (pA fx p :: as) 0 = some (x, .list [.int g, .int r]) := by
  subst ey
  exact uR1_of e rfl rfl
theorem take_u {fx : Bool} {p : Da} {m : Int} (h : PotU p) (h0 : 0 < m) (h1 : m < 1073741824) : ∃ (k : Nat) (p' : Da), uR1 F_law_take [pA fx p, .d (.int m)] 0 = some (.int (k : Int), p') ∧ (k : Int) < m ∧ PotU p' := by
  obtain ⟨g, r, rfl, ho⟩ := h
  obtain ⟨y, e, x, g', r', rfl, x0, x1, h'⟩ := take_ok (fx := fx) ho h0 h1
  obtain ⟨k, rfl⟩ := Int.eq_ofNat_of_zero_le x0
  exact ⟨k, _, draw e rfl, x1, g', r', rfl, h'⟩
theorem pot_u {ns : List Int} {k : Nat} (hk : k ≤ 63) : ∃ p, uW F_law_pot [.sc ns, .d (.int (k : Int))] = some p ∧ PotU p := by
  obtain ⟨y, e, g, r, rfl, p⟩ := pot_ok (ns := ns) hk
  refine ⟨_, ?_, g, r, rfl, p⟩
  unfold uW
  rw [e]
  rfl
/-- how often the law looks -/
theorem turns_u {ns : List Int} {m : Nat} (h1 : 1 ≤ m) (hm : m ≤ 63) {τ : Type} {k : List Da → Option τ} {Q : τ → Prop} (h : ∀ t, t ≤ m → Wp (k ((List.range t).map fun k : Nat => Da.int (k : Int))) Q) :
    Wp ((fMin [.int (m : Int), .int (ns.length : Int)]).bind fun e => (fMax [.int 1, e]).bind fun e1 => (rg1U e1).bind k) Q := by
  have m1 : fMin [.int (m : Int), .int (ns.length : Int)] = some (.int ((min m ns.length : Nat) : Int)) := by
    show some (Da.int (if (ns.length : Int) < m then (ns.length : Int) else m)) = _
    congr 2
    split <;> omega
  have m2 : fMax [.int 1, .int ((min m ns.length : Nat) : Int)] = some (.int ((max 1 (min m ns.length) : Nat) : Int)) := by
    show some (Da.int (if ((min m ns.length : Nat) : Int) > 1 then ((min m ns.length : Nat) : Int) else 1)) = _
    congr 2
    split <;> omega
  rw [m1, Option.bind_some, m2, Option.bind_some, rg1_n (by omega), Option.bind_some]
  exact h _ (by omega)
theorem word_u {fx : Bool} {p : Da} {names : List Str} {most : Int} (h : PotU p) (hn : names ≠ []) (hl : names.length < 1000000) (h0 : 0 ≤ most) (hm : most ≤ 1000) :
    ∃ (rs : List Str) (p' : Da), uR1 F_law_word [pA fx p, .d (.list (names.map Da.str)), .d (.int most)] 0 = some (wordT rs, p') ∧ PotU p' ∧ (rs.length : Int) ≤ most ∧ ∀ z ∈ rs, z ∈ names := by
  obtain ⟨g, r, rfl, ho⟩ := h
  obtain ⟨m, rfl⟩ := Int.eq_ofNat_of_zero_le h0
  obtain ⟨y, e, zs, g', r', rfl, h1, h2, h3⟩ := word_ok (fx := fx) (most := m) ho hn hl (by omega)
  exact ⟨zs, _, draw e rfl, ⟨g', r', rfl, h1⟩, by omega, h3⟩
theorem in_ends {ends : List Nat} (c : Nat) : (fIn false) (.int (c : Int)) (.list (intsD ends)) = some (.bool (decide (c ∈ ends))) := in_natsL c ends false
theorem add_t {xs ys : List Da} (h : xs.length + ys.length ≤ LIM) : fAdd (.tuple xs) (.tuple ys) = some (.tuple (xs ++ ys)) := if_pos h
end Wo
namespace Wo
open PySem PySem.Spec PyProof.Rows L2 Gk Vm
noncomputable def u_is_whole (thing : Da) : Option (Da) :=
 (isiU "int" thing).bind fun t =>
 (cond t ((isiU "bool" thing).bind fun t_1 =>
 some (Da.bool (!t_1))) (some (Da.bool false))).bind fun e =>
 some e
theorem tx_is_whole {thing r : Da} (h : u_is_whole thing = some r) : F_is_whole [AV.d thing] = some (.one (.d r), [AV.d thing]) := by
  unfold u_is_whole at h
  refine def_u rfl ?_
  show Wp (m_is_whole [AV.d thing]) _
  unfold m_is_whole
  replace h := bse h; obtain ⟨t, h_t, h⟩ := h
  replace h := bse h; obtain ⟨e, h_e, h⟩ := h
  replace h := Option.some.inj h; subst h
  exact wret_v (and_b (tofe_u (isi_u rfl rfl h_t) rfl rfl) (fun _ x h => by replace h := bse h; obtain ⟨t_1, h_t_1, h⟩ := h; replace h := Option.some.inj h; subst h; exact ⟨_, (enot_u (tofe_u (isi_u rfl rfl h_t_1) rfl rfl)), rfl⟩) h_e) (fun l o => qr_one o rfl)
end Wo
namespace Wo
open PySem PySem.Spec PyProof.Rows L2 Gk Vm
noncomputable def u_is_place (word : Da) (thing : Da) : Option (Da) :=
 (uC F_is_whole [AV.d thing]).bind fun e =>
 (asB e).bind fun t =>
 (cond t ((fLenB [word]).bind fun e_1 =>
 (chainU fLe fLe (Da.int 0) thing e_1).bind fun e_2 =>
 some e_2) (some (Da.bool false))).bind fun e_3 =>
 some e_3
theorem tx_is_place {word thing r : Da} (h : u_is_place word thing = some r) : F_is_place [AV.d word, AV.d thing] = some (.one (.d r), [AV.d word, AV.d thing]) := by
  unfold u_is_place at h
  refine def_u rfl ?_
  show Wp (m_is_place [AV.d word, AV.d thing]) _
  unfold m_is_place
  replace h := bse h; obtain ⟨e, h_e, h⟩ := h
  replace h := bse h; obtain ⟨t, h_t, h⟩ := h
  replace h := bse h; obtain ⟨e_3, h_e_3, h⟩ := h
  replace h := Option.some.inj h; subst h
  exact wret_v (and_b (tofe_u (call_u (asv := [AV.d thing]) (acons_go rfl rfl) rfl rfl h_e) rfl h_t) (fun _ x h => by replace h := bse h; obtain ⟨e_1, h_e_1, h⟩ := h; replace h := bse h; obtain ⟨e_2, h_e_2, h⟩ := h; replace h := Option.some.inj h; subst h; exact ⟨_, (chain_u rfl rfl (cb_u (acons_go rfl rfl) (rc rfl rfl) h_e_1) rfl rfl rfl h_e_2), rfl⟩) h_e_3) (fun l o => qr_one o rfl)
noncomputable def u_check_place (word : Da) (place : Da) : Option (Da) :=
 (uC F_is_place [AV.d word, AV.d place]).bind fun e =>
 cond (!(truD e)) (none) (some Da.none)
theorem tx_check_place {word place r : Da} (h : u_check_place word place = some r) : F_check_place [AV.d word, AV.d place] = some (.one (.d Da.none), [AV.d word, AV.d place]) := by
  unfold u_check_place at h
  refine def_n rfl ?_
  show Wp (m_check_place [AV.d word, AV.d place]) _
  unfold m_check_place
  replace h := bse h; obtain ⟨e, h_e, h⟩ := h
  replace h := csp h; rcases h with ⟨hb, h⟩ | ⟨hb, h⟩
  · refine wif_t (mnot_go (tru_u (call_u (asv := [AV.d word, AV.d place]) (acons_go rfl (acons_go rfl rfl)) rfl rfl h_e) rfl)) hb ?_
    cases h
  · refine wif_f (mnot_go (tru_u (call_u (asv := [AV.d word, AV.d place]) (acons_go rfl (acons_go rfl rfl)) rfl rfl h_e) rfl)) hb ?_
    replace h := Option.some.inj h; subst h
    exact wlast rfl ⟨_, rfl, rfl⟩
noncomputable def u_backs (word : Da) (place : Da) : Option (Da) :=
 (uC F_check_place [AV.d word, AV.d place]).bind fun e =>
 (rg2U (Da.int 1) place).bind fun xs =>
 (flatU (fun at_ =>
 (fSub at_ (Da.int 1)).bind fun e_1 =>
 (fSubs word e_1).bind fun e_2 =>
 (fSub place (Da.int 1)).bind fun e_3 =>
 (fSubs word e_3).bind fun e_4 =>
 (fEqS e_2 e_4).bind fun e_5 =>
 (asB e_5).bind fun t =>
 cond t (some [at_]) (some [])) xs).bind fun ys =>
 (limU ys).bind fun ys_1 =>
 (fTuple [(Da.list ys_1)]).bind fun e_6 =>
 some e_6
theorem tx_backs {word place r : Da} (h : u_backs word place = some r) : F_backs [AV.d word, AV.d place] = some (.one (.d r), [AV.d word, AV.d place]) := by
  unfold u_backs at h
  refine def_u rfl ?_
  show Wp (m_backs [AV.d word, AV.d place, .un]) _
  unfold m_backs
  replace h := bse h; obtain ⟨e, h_e, h⟩ := h
  refine wseq (drop_u (call_u (asv := [AV.d word, AV.d place]) (acons_go rfl (acons_go rfl rfl)) rfl rfl h_e)) ?_
  show Wp ((_ : MS) [AV.d word, AV.d place, .un]) _
  replace h := bse h; obtain ⟨xs, h_xs, h⟩ := h
  replace h := bse h; obtain ⟨ys, h_ys, h⟩ := h
  replace h := bse h; obtain ⟨ys_1, h_ys_1, h⟩ := h
  replace h := bse h; obtain ⟨e_6, h_e_6, h⟩ := h
  replace h := Option.some.inj h; subst h
  exact wret (cb_u (acons_go (ef_u (flc_u (cm_u (W := [AV.d word, AV.d place, .un]) (irg2_u (acons_go rfl (acons_go rfl rfl)) (rc rfl (rc rfl rfl)) h_xs) (nr_cons rfl rfl nr_nil) rfl (fun at_ y h => by (replace h := bse h; obtain ⟨e_1, h_e_1, h⟩ := h; replace h := bse h; obtain ⟨e_2, h_e_2, h⟩ := h; replace h := bse h; obtain ⟨e_3, h_e_3, h⟩ := h; replace h := bse h; obtain ⟨e_4, h_e_4, h⟩ := h; replace h := bse h; obtain ⟨e_5, h_e_5, h⟩ := h; replace h := bse h; obtain ⟨t, h_t, h⟩ := h; replace h := csp h; rcases h with ⟨hb, h⟩ | ⟨hb, h⟩; (replace h := Option.some.inj h; subst h; exact ⟨_, _, (setD_go rfl rfl), (tofe_u (eop_go (eop_go rfl (eop_go rfl rfl rfl rfl h_e_1) rfl rfl h_e_2) (eop_go rfl (eop_go rfl rfl rfl rfl h_e_3) rfl rfl h_e_4) rfl rfl h_e_5) rfl h_t), fun _ => (mlc_u rfl rfl), fun z => Bool.noConfusion (hb.symm.trans z), rfl⟩); (replace h := Option.some.inj h; subst h; exact ⟨_, _, (setD_go rfl rfl), (tofe_u (eop_go (eop_go rfl (eop_go rfl rfl rfl rfl h_e_1) rfl rfl h_e_2) (eop_go rfl (eop_go rfl rfl rfl rfl h_e_3) rfl rfl h_e_4) rfl rfl h_e_5) rfl h_t), fun z => Bool.noConfusion (hb.symm.trans z), fun _ => rfl, rfl⟩))) h_ys) h_ys_1)) rfl) (rc rfl rfl) h_e_6) (qr_one rfl rfl)
end Wo
namespace Wo
open PySem PySem.Spec PyProof.Rows L2 Gk Vm Mth
theorem is_whole_n (d : Nat) : uC F_is_whole [.d (.int (d : Int))] = some (.bool true) := uC_of (whole_ok d)
theorem is_place_n (word : List Str) (p : Nat) : uC F_is_place [.d (wordT word), .d (.int (p : Int))] = some (.bool (decide (p ≤ word.length))) := by
  refine uC_of (tx_is_place ?_)
  unfold u_is_place wordT
  rw [is_whole_n]
  simp only [Option.bind_some, Option.bind_none, asB_b, asI_i, un2_t, un3_t, un4_t, unT_t, tru_b, tru_t, tru_l, tru_n, isN_n, isN_t, isN_i, isN_l, isi_tt, isi_tl, isi_ti, isi_tn, isi_ii, isi_ib, isi_is, isi_bi, isi_bb, isi_bs, isi_ss, isi_si, isi_st, isi_sn, isi_it, isi_bt, ↓len_t0, ↓len_t1, ↓len_t2, ↓len_t3, ne_22, ne_12, ne_33, eq_22, eq_11, len_t, len_l, len_s, len_dt, len_dk, tup_l, tup_t, list_l, list_t, it_l, it_t, add_n, add_1, one_add, sub_i, lt_n, ltA_n, le_n, gt_n, ge_n, gt_0, gt_1, gt_2, eqn_0, eqn_1, eqn_2, eqn_3, nen_2, nen_3, chain_ll, chain_lt, eq_n, ne_n, eq_s, ne_s, ix0, ix1, ix2, ix3, cut2, cond_true, cond_false, Bool.not_true, Bool.not_false, List.length_map, List.length_cons, List.length_nil, List.isEmpty_cons, List.isEmpty_nil, ite_true, ite_false, if_true, if_false, reduceIte]
  congr 2
  rw [Bool.eq_iff_iff]
  simp
theorem check_place_n {word : List Str} {p : Nat} (h : p ≤ word.length) : uC F_check_place [.d (wordT word), .d (.int (p : Int))] = some .none := by
  refine uC_of (tx_check_place (r := .none) ?_)
  unfold u_check_place
  rw [is_place_n, decide_eq_true h]
  rfl
theorem word_at {word : List Str} {k : Nat} {R : Str} (h : word[k]? = some R) : fSubs (wordT word) (.int (k : Int)) = some (.str R) := ixn (by rw [List.getElem?_map, h]; rfl)
theorem range'_map (n : Nat) : List.range' 1 n = (List.range n).map (1 + ·) := by rw [List.range'_eq_map_range]
theorem backs_n {word : List Str} {p : Nat} (h : p ≤ word.length) (hl : word.length ≤ 1000) : uC F_backs [.d (wordT word), .d (.int (p : Int))] = some (natsT (windsL word p)) := by
  refine uC_of (tx_backs ?_)
  unfold u_backs
  rw [check_place_n h, Option.bind_some, rg2_1 (by omega), Option.bind_some, range'_map, flatU_f (p := fun a : Nat => decide (word[a - 1]? = word[p - 1]?)) (g := fun a : Nat => Da.int (a : Int)), Option.bind_some, limU_ok, Option.bind_some]
  · rfl
  · rw [List.length_map]
    have := List.length_filter_le (fun a : Nat => decide (word[a - 1]? = word[p - 1]?)) ((List.range (p - 1)).map (1 + ·))
    rw [List.length_map, List.length_range] at this
    have : LIM = 1000000 := rfl
    omega
  · intro a m
    obtain ⟨k, mk, rfl⟩ := List.mem_map.mp m
    rw [List.mem_range] at mk
    obtain ⟨R, eR⟩ : ∃ R, word[1 + k - 1]? = some R := ⟨_, List.getElem?_eq_getElem (by omega)⟩
    obtain ⟨S, eS⟩ : ∃ S, word[p - 1]? = some S := ⟨_, List.getElem?_eq_getElem (by omega)⟩
    simp only [Option.bind_some, Option.bind_none, asB_b, asI_i, un2_t, un3_t, un4_t, unT_t, tru_b, tru_t, tru_l, tru_n, isN_n, isN_t, isN_i, isN_l, isi_tt, isi_tl, isi_ti, isi_tn, isi_ii, isi_ib, isi_is, isi_bi, isi_bb, isi_bs, isi_ss, isi_si, isi_st, isi_sn, isi_it, isi_bt, ↓len_t0, ↓len_t1, ↓len_t2, ↓len_t3, ne_22, ne_12, ne_33, eq_22, eq_11, len_t, len_l, len_s, len_dt, len_dk, tup_l, tup_t, list_l, list_t, it_l, it_t, add_n, add_1, one_add, sub_i, lt_n, ltA_n, le_n, gt_n, ge_n, gt_0, gt_1, gt_2, eqn_0, eqn_1, eqn_2, eqn_3, nen_2, nen_3, chain_ll, chain_lt, eq_n, ne_n, eq_s, ne_s, ix0, ix1, ix2, ix3, cut2, cond_true, cond_false, Bool.not_true, Bool.not_false, List.length_map, List.length_cons, List.length_nil, List.isEmpty_cons, List.isEmpty_nil, ite_true, ite_false, if_true, if_false, reduceIte]
    rw [show (((1 + k : Nat) : Int) - 1) = ((1 + k - 1 : Nat) : Int) by omega, show ((p : Int) - 1) = ((p - 1 : Nat) : Int) by omega, word_at eR, word_at eS]
    simp only [Option.bind_some, Option.bind_none, asB_b, asI_i, un2_t, un3_t, un4_t, unT_t, tru_b, tru_t, tru_l, tru_n, isN_n, isN_t, isN_i, isN_l, isi_tt, isi_tl, isi_ti, isi_tn, isi_ii, isi_ib, isi_is, isi_bi, isi_bb, isi_bs, isi_ss, isi_si, isi_st, isi_sn, isi_it, isi_bt, ↓len_t0, ↓len_t1, ↓len_t2, ↓len_t3, ne_22, ne_12, ne_33, eq_22, eq_11, len_t, len_l, len_s, len_dt, len_dk, tup_l, tup_t, list_l, list_t, it_l, it_t, add_n, add_1, one_add, sub_i, lt_n, ltA_n, le_n, gt_n, ge_n, gt_0, gt_1, gt_2, eqn_0, eqn_1, eqn_2, eqn_3, nen_2, nen_3, chain_ll, chain_lt, eq_n, ne_n, eq_s, ne_s, ix0, ix1, ix2, ix3, cut2, cond_true, cond_false, Bool.not_true, Bool.not_false, List.length_map, List.length_cons, List.length_nil, List.isEmpty_cons, List.isEmpty_nil, ite_true, ite_false, if_true, if_false, reduceIte]
    rw [eR, eS]
    by_cases e : R = S
    · subst e; simp
    · rw [beq_eq_false_iff_ne.mpr e]; simp [e]
inductive Gnd
  | fin
  | post
  | back (i : Nat)
def gD : Gnd → Da
  | .fin => endD
  | .post => postD
  | .back i => backD i
abbrev PRow := Pl × Gnd
def prT (r : PRow) : Da := .tuple [.int (r.1.1 : Int), .int (r.1.2 : Int), gD r.2]
/-- the arms of the post that is gone by at a place -/
def armsAt (posts : List PostS) (word : List Str) (x : Pl) : List Nat := match word[x.2]? with
  | some R => ((posts.find? fun p => decide (p.c = x.1 ∧ p.nm = R)).map (·.arms)).getD []
  | none => []
theorem iter_nats {bs : List Nat} : iterU (natsT bs) = some (bs.map fun b : Nat => Da.int (b : Int)) := rfl
theorem len_word {word : List Str} : fLenB [wordT word] = some (.int (word.length : Int)) := by
  unfold wordT
  simp only [Option.bind_some, Option.bind_none, asB_b, asI_i, un2_t, un3_t, un4_t, unT_t, tru_b, tru_t, tru_l, tru_n, isN_n, isN_t, isN_i, isN_l, isi_tt, isi_tl, isi_ti, isi_tn, isi_ii, isi_ib, isi_is, isi_bi, isi_bb, isi_bs, isi_ss, isi_si, isi_st, isi_sn, isi_it, isi_bt, ↓len_t0, ↓len_t1, ↓len_t2, ↓len_t3, ne_22, ne_12, ne_33, eq_22, eq_11, len_t, len_l, len_s, len_dt, len_dk, tup_l, tup_t, list_l, list_t, it_l, it_t, add_n, add_1, one_add, sub_i, lt_n, ltA_n, le_n, gt_n, ge_n, gt_0, gt_1, gt_2, eqn_0, eqn_1, eqn_2, eqn_3, nen_2, nen_3, chain_ll, chain_lt, eq_n, ne_n, eq_s, ne_s, ix0, ix1, ix2, ix3, cut2, cond_true, cond_false, Bool.not_true, Bool.not_false, List.length_map, List.length_cons, List.length_nil, List.isEmpty_cons, List.isEmpty_nil, ite_true, ite_false, if_true, if_false, reduceIte]
theorem windsL_len {word : List Str} {p : Nat} : (windsL word p).length ≤ p := by
  unfold windsL
  have := List.length_filter_le (fun a : Nat => decide (word[a - 1]? = word[p - 1]?)) ((List.range (p - 1)).map (1 + ·))
  rw [List.length_map, List.length_range] at this
  omega
theorem winds_n {word : List Str} {p : Nat} (h1 : 1 ≤ p) (h : p ≤ word.length) (hl : word.length ≤ 1000) : uC F_law_winds [.d (wordT word), .d (.int (p : Int))] = some (.list ((windsL word p).map fun b : Nat => Da.int (b : Int))) := uC_of (winds_ok h1 h hl)
theorem nm_ok {z : Str} (h : Nm z) : PyData.strOk z = true := by
  have hl : ∀ c ∈ lettersS.cps.toList, c < 0x110000 := by decide +kernel
  unfold PyData.strOk
  rw [Array.all_eq_true]
  intro i hi
  exact decide_eq_true (hl _ (h.2.2 _ (by rw [Array.mem_toList_iff]; exact Array.getElem_mem hi)))
end Wo
namespace Wo
open PySem PySem.Spec PyProof.Rows L2 Gk Vm Mth
end Wo
namespace Wo
open PySem PySem.Spec PyProof.Rows L2 Gk Vm Mth
def RL : Nat → List Fr → List (Pl × Da)
  | _, [] => []
  | k, F :: fs => F.map (fun y => (y.1, Da.int (k : Int))) ++ RL (k + 1) fs
section
variable {n : Nat} {posts : List PostS} {w : List Nat} {word : List Str} {ends : List Nat} {rows : List (Str × List Nat)} {fs : List Fr}
def goL (word : List Str) (p : Nat) : List Nat := (windsL word p ++ [p]).filter fun a => decide (a < word.length)
theorem goL_mem {a p : Nat} : a ∈ goL word p ↔ (a ∈ windsL word p ∨ a = p) ∧ a < word.length := by
  unfold goL
  rw [List.mem_filter, List.mem_append, List.mem_singleton, decide_eq_true_iff]
end
end Wo
namespace Wo
open PySem PySem.Spec PyProof.Rows L2 Gk Vm Mth
theorem hob_n {word : List Str} {p : Nat} (h : p ≤ word.length) (hl : word.length ≤ 1000) : uC F_here_or_back [.d (wordT word), .d (.int (p : Int))] = some (natsT (windsL word p ++ [p])) := by
  have lim : LIM = 1000000 := rfl
  refine uC_of (v := .one (.d _)) (tx_here_or_back ?_)
  unfold u_here_or_back
  have wl : (windsL word p).length ≤ p - 1 := by
    unfold windsL
    refine Nat.le_trans (List.length_filter_le ..) ?_
    rw [List.length_map, List.length_range]
    exact Nat.le_refl _
  rw [backs_n h hl, Option.bind_some]
  unfold natsT
  rw [add_t (by rw [List.length_map, List.length_singleton]; omega), Option.bind_some, List.map_append]
  rfl
theorem goings_n {word : List Str} {p : Nat} (h : p ≤ word.length) (hl : word.length ≤ 1000) : uC F_going_places [.d (wordT word), .d (.int (p : Int))] = some (natsT (goL word p)) := by
  have lim : LIM = 1000000 := rfl
  refine uC_of (v := .one (.d _)) (tx_going_places ?_)
  unfold u_going_places
  have wl : (windsL word p).length ≤ p - 1 := by
    unfold windsL
    refine Nat.le_trans (List.length_filter_le ..) ?_
    rw [List.length_map, List.length_range]
    exact Nat.le_refl _
  rw [hob_n h hl, Option.bind_some, iter_nats, Option.bind_some, flatU_f (p := fun a : Nat => decide (a < word.length)) (g := fun a : Nat => Da.int (a : Int)) (fun a _ => by rw [len_word]; simp only [Option.bind_some, Option.bind_none, asB_b, asI_i, un2_t, un3_t, un4_t, unT_t, tru_b, tru_t, tru_l, tru_n, isN_n, isN_t, isN_i, isN_l, isi_tt, isi_tl, isi_ti, isi_tn, isi_ii, isi_ib, isi_is, isi_bi, isi_bb, isi_bs, isi_ss, isi_si, isi_st, isi_sn, isi_it, isi_bt, ↓len_t0, ↓len_t1, ↓len_t2, ↓len_t3, ne_22, ne_12, ne_33, eq_22, eq_11, len_t, len_l, len_s, len_dt, len_dk, tup_l, tup_t, list_l, list_t, it_l, it_t, add_n, add_1, one_add, sub_i, lt_n, ltA_n, le_n, gt_n, ge_n, gt_0, gt_1, gt_2, eqn_0, eqn_1, eqn_2, eqn_3, nen_2, nen_3, chain_ll, chain_lt, eq_n, ne_n, eq_s, ne_s, ix0, ix1, ix2, ix3, cut2, cond_true, cond_false, Bool.not_true, Bool.not_false, List.length_map, List.length_cons, List.length_nil, List.isEmpty_cons, List.isEmpty_nil, ite_true, ite_false, if_true, if_false, reduceIte]; cases decide (a < word.length) <;> rfl), Option.bind_some, limU_ok, Option.bind_some, tup_l]
  · rfl
  · rw [List.length_map]
    have := List.length_filter_le (fun a => decide (a < word.length)) (windsL word p ++ [p])
    rw [List.length_append, List.length_singleton] at this
    omega
end Wo
namespace Wo
open PySem PySem.Spec PyProof.Rows L2 Gk Vm Mth
end Wo
namespace Wo
open PySem PySem.Spec PyProof.Rows L2 Gk Vm Mth
end Wo
namespace Wo
open PySem PySem.Spec PyProof.Rows L2 Gk Vm Mth
abbrev Rul := List Pl × Pl
/-- the rules of posts and of places further -/
def q1 (posts : List PostS) (word : List Str) (pl c : Nat) : List Rul := if armsAt posts word (c, pl) = [] then [] else [((armsAt posts word (c, pl)).map fun d => (d, pl + 1), (c, pl))]
def q2 (low pl c : Nat) : Rul := ([(c, low)], (c, pl))
end Wo
namespace Wo
open PySem PySem.Spec PyProof.Rows L2 Gk Vm Mth
end Wo
namespace Wo
open PySem PySem.Spec PyProof.Rows L2 Gk Vm Mth
end Wo
namespace Wo
open PySem PySem.Spec PyProof.Rows L2 Gk Vm
noncomputable def u_law_winds (v : Da) (v_1 : Da) : Option (Da) :=
 (rg2U (Da.int 1) v_1).bind fun xs =>
 (flatU (fun v_2 =>
 (fSub v_2 (Da.int 1)).bind fun e =>
 (fSubs v e).bind fun e_1 =>
 (fSub v_1 (Da.int 1)).bind fun e_2 =>
 (fSubs v e_2).bind fun e_3 =>
 (fEqS e_1 e_3).bind fun e_4 =>
 (asB e_4).bind fun t =>
 cond t (some [v_2]) (some [])) xs).bind fun ys =>
 (limU ys).bind fun ys_1 =>
 some (Da.list ys_1)
theorem tx_law_winds {v v_1 r : Da} (h : u_law_winds v v_1 = some r) : F_law_winds [AV.d v, AV.d v_1] = some (.one (.d r), [AV.d v, AV.d v_1]) := by
  unfold u_law_winds at h
  refine def_u rfl ?_
  show Wp (m_law_winds [AV.d v, AV.d v_1, .un]) _
  unfold m_law_winds
  replace h := bse h; obtain ⟨xs, h_xs, h⟩ := h
  replace h := bse h; obtain ⟨ys, h_ys, h⟩ := h
  replace h := bse h; obtain ⟨ys_1, h_ys_1, h⟩ := h
  replace h := Option.some.inj h; subst h
  exact wret (ef_u (flc_u (cm_u (W := [AV.d v, AV.d v_1, .un]) (irg2_u (acons_go rfl (acons_go rfl rfl)) (rc rfl (rc rfl rfl)) h_xs) (nr_cons rfl rfl nr_nil) rfl (fun v_2 y h => by (replace h := bse h; obtain ⟨e, h_e, h⟩ := h; replace h := bse h; obtain ⟨e_1, h_e_1, h⟩ := h; replace h := bse h; obtain ⟨e_2, h_e_2, h⟩ := h; replace h := bse h; obtain ⟨e_3, h_e_3, h⟩ := h; replace h := bse h; obtain ⟨e_4, h_e_4, h⟩ := h; replace h := bse h; obtain ⟨t, h_t, h⟩ := h; replace h := csp h; rcases h with ⟨hb, h⟩ | ⟨hb, h⟩; (replace h := Option.some.inj h; subst h; exact ⟨_, _, (setD_go rfl rfl), (tofe_u (eop_go (eop_go rfl (eop_go rfl rfl rfl rfl h_e) rfl rfl h_e_1) (eop_go rfl (eop_go rfl rfl rfl rfl h_e_2) rfl rfl h_e_3) rfl rfl h_e_4) rfl h_t), fun _ => (mlc_u rfl rfl), fun z => Bool.noConfusion (hb.symm.trans z), rfl⟩); (replace h := Option.some.inj h; subst h; exact ⟨_, _, (setD_go rfl rfl), (tofe_u (eop_go (eop_go rfl (eop_go rfl rfl rfl rfl h_e) rfl rfl h_e_1) (eop_go rfl (eop_go rfl rfl rfl rfl h_e_2) rfl rfl h_e_3) rfl rfl h_e_4) rfl h_t), fun z => Bool.noConfusion (hb.symm.trans z), fun _ => rfl, rfl⟩))) h_ys) h_ys_1)) (qr_one rfl rfl)
end Wo
namespace Wo
open PySem PySem.Spec PyProof.Rows L2 Gk Vm Mth
/-- the backs of a place, 0 too -/
theorem winds_a {word : List Str} {p : Nat} (h : p ≤ word.length) (hl : word.length ≤ 1000) : uC F_law_winds [.d (wordT word), .d (.int (p : Int))] = some (.list ((windsL word p).map fun b : Nat => Da.int (b : Int))) := by
  by_cases h0 : p = 0
  · subst h0
    refine uC_of (v := .one (.d _)) (tx_law_winds ?_)
    unfold u_law_winds
    rfl
  · exact winds_n (by omega) h hl
end Wo
namespace Wo
open PySem PySem.Spec PyProof.Rows L2 Gk Vm Mth
def hP (x : Pl) : Int := reduceHash (Builtin.Tuple.tupleHashOf [hashInt (x.1 : Int), hashInt (x.2 : Int)])
theorem shd_lst {xs : List Da} {k n : Nat} (m : Nat) (h : ∀ x ∈ xs, ShD x k n) (hl : xs.length ≤ m) (hm : m ≤ 100000) : ShD (.list xs) (k + 1) (m * (n + 2) + 3) := by
  obtain ⟨ds, e, s, l⟩ := toPysR_sh h
  refine ⟨.list ds, ?_, lst_sh s (by omega)⟩
  unfold toPyR
  rw [if_pos (by omega), e]
  rfl
end Wo
namespace Wo
open PySem PySem.Spec PyProof.Rows L2 Gk Vm Mth
end Wo
namespace Vm
open PySem PySem.Spec PyProof.Rows L2 Gk Mth
end Vm
namespace Vm
open PySem PySem.Spec PyProof.Rows L2 Gk Mth
end Vm
namespace Vm
open PySem PySem.Spec PyProof.Rows L2 Gk
end Vm
namespace Vm
open PySem PySem.Spec PyProof.Rows L2 Gk
end Vm
namespace Vm
open PySem PySem.Spec PyProof.Rows L2 Gk
end Vm
namespace Vm
open PySem PySem.Spec PyProof.Rows L2 Gk
end Vm
namespace Vm
open PySem PySem.Spec PyProof.Rows L2 Gk
end Vm
namespace Vm
open PySem PySem.Spec PyProof.Rows L2 Gk
end Vm
namespace Vm
open PySem PySem.Spec PyProof.Rows L2 Gk
end Vm
namespace Vm
open PySem PySem.Spec PyProof.Rows L2 Gk
end Vm
namespace Vm
open PySem PySem.Spec PyProof.Rows L2 Gk
end Vm
namespace Vm
open PySem PySem.Spec PyProof.Rows L2 Gk
section
variable {K : PySem.W.Frag} {p p' p2 : List Addr} {H H' H2 : Hp} {σ σ' σ2 : L2.St} {α α' α2 α0 : AS} {A A' A2 : FT}
theorem KidsT.keys : ∀ {r : List (List Key × V)} {s : List (List Key × Da)} {as : List Addr}, KidsT K p H r s as → r.map (·.1) = s.map (·.1)
  | _, _, _, .nil => rfl
  | _, _, _, .cons _ _ t => by rw [List.map_cons, List.map_cons, KidsT.keys t]
theorem KidsT.drop {k : List Key} : ∀ {r : List (List Key × V)} {s : List (List Key × Da)} {as : List Addr}, KidsT K p H r s as → as.Nodup →
    ∃ as', KidsT K p H (dropK r k) (s.filter fun kv => decide (kv.1 ≠ k)) as' ∧ as'.Sublist as
  | _, _, _, .nil, _ => ⟨[], .nil, .slnil⟩
  | _, _, _, .cons (k := j) (c := c0) (x := y) (r := r) (s := s) (as := as) h d t, nd => by
    obtain ⟨as', k1, k2⟩ := KidsT.drop t (List.nodup_cons.mp nd).2
    by_cases z : j = k
    · rw [show dropK ((j, V.ref c0) :: r) k = dropK r k from List.filter_cons_of_neg (by simp [z]), List.filter_cons_of_neg (by simp [z])]
      exact ⟨as', k1, k2.cons _⟩
    · rw [show dropK ((j, V.ref c0) :: r) k = (j, V.ref c0) :: dropK r k from List.filter_cons_of_pos (by simp [z]), List.filter_cons_of_pos (by simp [z])]
      exact ⟨c0 :: as', .cons h d k1, k2.cons₂ _⟩
end
end Vm
namespace Vm
open PySem PySem.Spec PyProof.Rows L2 Gk
section
variable {K : PySem.W.Frag} {p p' p2 : List Addr} {H H' H2 : Hp} {σ σ' σ2 : L2.St} {α α' α2 α0 : AS} {A A' A2 : FT}
def isI : Da → Bool
  | .int _ => true
  | _ => false
/-- one pair, laid -/
def OneN (K : PySem.W.Frag) (p : List Addr) (H1 : Hp) (D : Addr) (H : Hp) (e : Addr × List Key × Addr × Addr) (d : List Key × Da) : Prop :=
  H e.1 = some (.tup [.ref e.2.2.1, .ref e.2.2.2]) ∧ H e.2.2.1 = some (.tup (e.2.1.map kV)) ∧ ((∀ x ∈ e.2.1, KeyOk x) ∧ e.2.1.length ≤ LIM) ∧ e.2.1 = d.1 ∧ H1 e.2.2.2 = none ∧ e.2.2.2 ≠ D ∧ ∃ us ys, d.2 = .list ys ∧ H e.2.2.2 = some (.lst us) ∧ us.length ≤ LIM ∧ DzA K p H us ys ∧ ys.all isI = true
theorem OneN.keep {H1 : Hp} {D : Addr} {o : HO} {vs : List V} {e : Addr × List Key × Addr × Addr} {d : List Key × Da} (h : OneN K p H1 D H e d) (s : Same H H2) (hD : H2 D = some (.lst vs)) (hp : D ∈ p) : OneN K p H1 D (L2.upd H2 D o) e d := by
  obtain ⟨h1, h2, h3, h4, h5, h6, us, ys, h7, h8, h9, h10, h11⟩ := h
  have ne : ∀ {b : Addr} {xs : List V}, H b = some (.tup xs) → b ≠ D := fun hb z => by
    have := s _ _ hb
    rw [z, hD] at this
    cases this
  exact ⟨(upd_ne (ne h1)).trans (s _ _ h1), (upd_ne (ne h2)).trans (s _ _ h2), h3, h4, h5, h6, us, ys, h7, (upd_ne h6).trans (s _ _ h8), h9, (h10.tr (tr_same s)).tr (tr_upd hp hD trivial), h11⟩
end
end Vm
namespace Vm
open PySem PySem.Spec PyProof.Rows L2 Gk
section
variable {K : PySem.W.Frag} {p p' p2 : List Addr} {H H' H2 : Hp} {σ σ' σ2 : L2.St} {α α' α2 α0 : AS} {A A' A2 : FT}
theorem KidsT.oks : ∀ {r : List (List Key × V)} {s : List (List Key × Da)} {as : List Addr}, KidsT K p H r s as → ∀ k ∈ s.map (·.1), (∀ x ∈ k, KeyOk x) ∧ k.length ≤ LIM
  | _, _, _, .nil, k, m => (List.not_mem_nil m).elim
  | _, _, _, .cons h _ t, k, m => by
    rw [List.map_cons] at m
    rcases List.mem_cons.mp m with rfl | m
    · exact h
    · exact KidsT.oks t k m
end
end Vm
namespace Vm
open PySem PySem.Spec PyProof.Rows L2 Gk
end Vm
namespace K04
open PySem PySem.Spec PyProof.Rows L2 Gk Vm Wo
def topS (i : Nat) : Stmt := PySem.Challenge.pw_woundwalks_k04_whole_wound_rows_by_all_r.main.body.getD i (.Pass ⟨0, 0, 0, 0⟩)
abbrev FnP (K : PySem.W.Frag) (x : Str) (st : Stmt) (f : Addr) (fd : FuncData) : Prop := FunD K x x (defArgs st) (defBody st) (defScope st) [] [] f fd
abbrev FnPk (K : PySem.W.Frag) (x : Str) (st : Stmt) (kw : List (Str × V)) (f : Addr) (fd : FuncData) : Prop := FunD K x x (defArgs st) (defBody st) (defScope st) [] kw f fd
end K04
namespace K04
open PySem PySem.Spec PyProof.Rows L2 Gk Vm Wo
abbrev s_is_whole : Stmt := topS 6
theorem sc_is_whole : FnScope ["thing"] ["thing"] (defScope s_is_whole) := ⟨rfl, rfl, rfl, by decide +kernel, rfl, by decide +kernel, by decide +kernel⟩
theorem ok_is_whole {P : Program} {w : World} {K : PySem.W.Frag} {mg : Str → Option Value} {base : Heap} {f : Addr} {fd : FuncData} (F : FnP K "is_whole" s_is_whole f fd) (B : Bi mg) :
    FnG P w K mg base CX0 1 f fd ["thing"] (spV K F_is_whole) := by
  refine okGN F sc_is_whole (fun vs H Q E h => spV_len h) (fun cdv A outer s H vs Q E hg hr h => ?_)
  exact ⟨_, (pss_one (ps_ret (pe_and (pe_callB (call_isiK (K := K) rfl) (by rfl) B.isinstance (by decide +kernel) (pa_cons (pv 0) (pa_cons (pe_bltn (v := .ty "int") (by rfl) B.int (by decide +kernel) rfl) pa_nil))) (pe_one (pe_not (pe_callB (call_isiK (K := K) rfl) (by rfl) B.isinstance (by decide +kernel) (pa_cons (pv 0) (pa_cons (pe_bltn (v := .ty "bool") (by rfl) B.bool (by decide +kernel) rfl) pa_nil)))))))), body_ok ((ref_ret (ref_andV (ref_isi ref_var) (ref_notV (ref_isi ref_var))))) (by decide) h⟩
abbrev s_is_place : Stmt := topS 7
theorem sc_is_place : FnScope ["word", "thing"] ["word", "thing"] (defScope s_is_place) := ⟨rfl, rfl, rfl, by decide +kernel, rfl, by decide +kernel, by decide +kernel⟩
theorem ok_is_place {P : Program} {w : World} {K : PySem.W.Frag} {mg : Str → Option Value} {base : Heap} {f : Addr} {fd : FuncData} (F : FnP K "is_place" s_is_place f fd) (B : Bi mg) (c_is_whole : ClG P w K mg base 1 "is_whole" ["thing"] (spV K F_is_whole)) :
    FnG P w K mg base CX0 2 f fd ["word", "thing"] (spV K F_is_place) := by
  refine okGN F sc_is_place (fun vs H Q E h => spV_len h) (fun cdv A outer s H vs Q E hg hr h => ?_)
  exact ⟨_, (pss_one (ps_ret (pe_and (pe_clG c_is_whole hg hr (by decide) (by rfl) (pa_cons (pv 1) pa_nil)) (pe_one (pe_chain op_le op_le pe_int (pv 1) (pe_callB len_all (by rfl) B.len (by decide +kernel) (pa_cons (pv 0) pa_nil))))))), body_ok ((ref_ret (ref_andV (ref_call .nil (ref_cons ref_var ref_nil)) (ref_chain rr_IB rr_IB ref_int ref_var (ref_cb rr_lenB (ref_cons ref_var ref_nil)))))) (by decide) h⟩
abbrev s_check_place : Stmt := topS 8
theorem sc_check_place : FnScope ["word", "place"] ["word", "place"] (defScope s_check_place) := ⟨rfl, rfl, rfl, by decide +kernel, rfl, by decide +kernel, by decide +kernel⟩
theorem ok_check_place {P : Program} {w : World} {K : PySem.W.Frag} {mg : Str → Option Value} {base : Heap} {f : Addr} {fd : FuncData} (F : FnP K "check_place" s_check_place f fd) (B : Bi mg) (c_is_place : ClG P w K mg base 2 "is_place" ["word", "thing"] (spV K F_is_place)) :
    FnG P w K mg base CX0 3 f fd ["word", "place"] (spV K F_check_place) := by
  refine okGN F sc_check_place (fun vs H Q E h => spV_len h) (fun cdv A outer s H vs Q E hg hr h => ?_)
  exact ⟨_, (pss_one (ps_if (pt_not (pt_tru (pe_clG c_is_place hg hr (by decide) (by rfl) (pa_cons (pv 0) (pa_cons (pv 1) pa_nil))))) (pss_one Gk.ps_dead) pss_nil)), body_ok ((ref_ifS (ref_not (ref_tru (ref_call .nil (ref_cons ref_var (ref_cons ref_var ref_nil))))) ref_dead ref_next)) (by decide) h⟩
abbrev s_backs : Stmt := topS 9
theorem sc_backs : FnScope ["word", "place", "at"] ["word", "place"] (defScope s_backs) := ⟨rfl, rfl, rfl, by decide +kernel, rfl, by decide +kernel, by decide +kernel⟩
theorem ok_backs {P : Program} {w : World} {K : PySem.W.Frag} {mg : Str → Option Value} {base : Heap} {f : Addr} {fd : FuncData} (F : FnP K "backs" s_backs f fd) (B : Bi mg) (c_check_place : ClG P w K mg base 3 "check_place" ["word", "place"] (spV K F_check_place)) :
    FnG P w K mg base CX0 4 f fd ["word", "place"] (spV K F_backs) := by
  refine okGN F sc_backs (fun vs H Q E h => spV_len h) (fun cdv A outer s H vs Q E hg hr h => ?_)
  exact ⟨_, (pss_cons (ps_expr (pe_clG c_check_place hg hr (by decide) (by rfl) (pa_cons (pv 0) (pa_cons (pv 1) pa_nil))))
      (pss_one (ps_ret (pe_callTy tuple_any (by rfl) B.tuple (by decide +kernel) (pa_cons (pe_lc (own := [("at", 2)]) (g := (gName 2)) rfl sc_backs.nd (pi_range2 (by rfl) B.range (pa_cons pe_int (pa_cons (pv 1) pa_nil))) (blkOk_by (own := [("at", 2)]) (N := ["word", "place", "at"]) (sc := defScope s_backs) (by decide +kernel)) (fun _ _ _ _ _ => (pg_name (i := 2) sc_backs.nd rfl (Or.inl rfl))) (fun _ _ _ _ _ => (pts_one (pt_cmpR (op_eqK (K := K) rfl (hu64_of hr)) (pe_orE (pe_ix ix_any (pv 0) (pe_op op_sub (pv 2) pe_int) (fun _ _ => rfl)) (pe_dget (hu_of hr) (pv 0) (pe_op op_sub (pv 2) pe_int) (fun _ _ => rfl))) (pe_orE (pe_ix ix_any (pv 0) (pe_op op_sub (pv 1) pe_int) (fun _ _ => rfl)) (pe_dget (hu_of hr) (pv 0) (pe_op op_sub (pv 1) pe_int) (fun _ _ => rfl))) (nomark _)))) (fun _ _ _ _ _ => (pv 2))) pa_nil))))), body_ok ((ref_seq (ref_drop (ref_call .nil (ref_cons ref_var (ref_cons ref_var ref_nil))))
      (ref_ret (ref_cb rr_tuple (ref_cons (ref_F (ref_lc (ref_iRg2 (ref_cons ref_int (ref_cons ref_var ref_nil))) (ref_bName (by decide)) (ref_test (ref_op rr_eq (ref_sub ref_var (ref_op rr_I ref_var ref_int)) (ref_sub ref_var (ref_op rr_I ref_var ref_int)))) ref_var)) ref_nil))))) (by decide) h⟩
abbrev s_here_or_back : Stmt := topS 10
theorem sc_here_or_back : FnScope ["word", "place"] ["word", "place"] (defScope s_here_or_back) := ⟨rfl, rfl, rfl, by decide +kernel, rfl, by decide +kernel, by decide +kernel⟩
theorem ok_here_or_back {P : Program} {w : World} {K : PySem.W.Frag} {mg : Str → Option Value} {base : Heap} {f : Addr} {fd : FuncData} (F : FnP K "here_or_back" s_here_or_back f fd) (B : Bi mg) (c_backs : ClG P w K mg base 4 "backs" ["word", "place"] (spV K F_backs)) :
    FnG P w K mg base CX0 5 f fd ["word", "place"] (spV K F_here_or_back) := by
  refine okGN F sc_here_or_back (fun vs H Q E h => spV_len h) (fun cdv A outer s H vs Q E hg hr h => ?_)
  exact ⟨_, (pss_one (ps_ret (pe_op op_addA (pe_clG c_backs hg hr (by decide) (by rfl) (pa_cons (pv 0) (pa_cons (pv 1) pa_nil))) (pe_tup (pa_cons (pv 1) pa_nil))))), body_ok ((ref_ret (ref_op rr_add (ref_call .nil (ref_cons ref_var (ref_cons ref_var ref_nil))) (ref_tup (ref_cons ref_var ref_nil))))) (by decide) h⟩
abbrev s_going_places : Stmt := topS 11
theorem sc_going_places : FnScope ["word", "place", "at"] ["word", "place"] (defScope s_going_places) := ⟨rfl, rfl, rfl, by decide +kernel, rfl, by decide +kernel, by decide +kernel⟩
theorem ok_going_places {P : Program} {w : World} {K : PySem.W.Frag} {mg : Str → Option Value} {base : Heap} {f : Addr} {fd : FuncData} (F : FnP K "going_places" s_going_places f fd) (B : Bi mg) (c_here_or_back : ClG P w K mg base 5 "here_or_back" ["word", "place"] (spV K F_here_or_back)) :
    FnG P w K mg base CX0 6 f fd ["word", "place"] (spV K F_going_places) := by
  refine okGN F sc_going_places (fun vs H Q E h => spV_len h) (fun cdv A outer s H vs Q E hg hr h => ?_)
  exact ⟨_, (pss_one (ps_ret (pe_callTy tuple_any (by rfl) B.tuple (by decide +kernel) (pa_cons (pe_lc (own := [("at", 2)]) (g := (gName 2)) rfl sc_going_places.nd (pi_any (K := K) rfl (pe_clG c_here_or_back hg hr (by decide) (by rfl) (pa_cons (pv 0) (pa_cons (pv 1) pa_nil)))) (blkOk_by (own := [("at", 2)]) (N := ["word", "place", "at"]) (sc := defScope s_going_places) (by decide +kernel)) (fun _ _ _ _ _ => (pg_name (i := 2) sc_going_places.nd rfl (Or.inl rfl))) (fun _ _ _ _ _ => (pts_one (pt_cmpR (op_ltA (K := K) rfl (hu70_of hr)) (pv 2) (pe_callB len_all (by rfl) B.len (by decide +kernel) (pa_cons (pv 0) pa_nil)) (nomark _)))) (fun _ _ _ _ _ => (pv 2))) pa_nil)))), body_ok ((ref_ret (ref_cb rr_tuple (ref_cons (ref_F (ref_lc (ref_iAny (ref_call .nil (ref_cons ref_var (ref_cons ref_var ref_nil)))) (ref_bName (by decide)) (ref_test (ref_op rr_ltA ref_var (ref_cb rr_lenB (ref_cons ref_var ref_nil)))) ref_var)) ref_nil)))) (by decide) h⟩
abbrev s_greatest_steps : Stmt := topS 14
theorem sc_greatest_steps : FnScope ["word", "steps", "place", "at", "leads", "name"] ["word"] (defScope s_greatest_steps) := ⟨rfl, rfl, rfl, by decide +kernel, rfl, by decide +kernel, by decide +kernel⟩
theorem ok_greatest_steps {P : Program} {w : World} {K : PySem.W.Frag} {mg : Str → Option Value} {base : Heap} {f : Addr} {fd : FuncData} (F : FnP K "greatest_steps" s_greatest_steps f fd) (B : Bi mg) (c_going_places : ClG P w K mg base 6 "going_places" ["word", "place"] (spV K F_going_places)) :
    FnG P w K mg base CX0 7 f fd ["word"] (spV K F_greatest_steps) := by
  refine okGN F sc_greatest_steps (fun vs H Q E h => spV_len h) (fun cdv A outer s H vs Q E hg hr h => ?_)
  exact ⟨_, (pss_cons (ps_set (i := 1) sc_greatest_steps.nd rfl (Or.inl rfl) (pe_lst pa_nil))
      (pss_cons (ps_for PassesOwn.never rfl (pi_range1 (by rfl) B.range (pa_cons (pe_op op_addA (pe_callB len_all (by rfl) B.len (by decide +kernel) (pa_cons (pv 0) pa_nil)) pe_int) pa_nil)) (pg_name (i := 2) sc_greatest_steps.nd rfl (Or.inl rfl)) (pss_cons (ps_set (i := 4) sc_greatest_steps.nd rfl (Or.inr rfl) (pe_dc (own := [("at", 3)]) (g := (gName 3)) (tt := tYes) rfl sc_greatest_steps.nd (pi_any (K := K) rfl (pe_clG c_going_places hg hr (by decide) (by rfl) (pa_cons (pv 0) (pa_cons (pv 2) pa_nil)))) (blkOk_by (own := [("at", 3)]) (N := ["word", "steps", "place", "at", "leads", "name"]) (sc := defScope s_greatest_steps) (by decide +kernel)) (fun _ _ _ _ _ => (pg_name (i := 3) sc_greatest_steps.nd rfl (Or.inl rfl))) (fun _ _ _ _ _ => pts_nil) (fun _ _ _ _ _ => (pe_orE (pe_ix ix_any (pv 0) (pv 3) (fun _ _ => rfl)) (pe_dget (hu_of hr) (pv 0) (pv 3) (fun _ _ => rfl)))) (fun _ _ _ _ _ => (pe_op op_addA (pv 3) pe_int))))
      (pss_one (ps_expr (pe_bm PySem.F.plainAttrs_list PySem.F.slot_list_append PySem.F.type_list_append mt_append (pv 1) (pa_cons (pe_dc (own := [("name", 5)]) (g := (gName 5)) (tt := tYes) rfl sc_greatest_steps.nd (pi_any (K := K) rfl (pe_callB (cr_sortDK rfl (hu70_of hr)) (by rfl) B.sorted (by decide +kernel) (pa_cons (pv 4) pa_nil))) (blkOk_by (own := [("name", 5)]) (N := ["word", "steps", "place", "at", "leads", "name"]) (sc := defScope s_greatest_steps) (by decide +kernel)) (fun _ _ _ _ _ => (pg_name (i := 5) sc_greatest_steps.nd rfl (Or.inl rfl))) (fun _ _ _ _ _ => pts_nil) (fun _ _ _ _ _ => (pv 5)) (fun _ _ _ _ _ => (pe_orE (pe_ix ix_any (pv 4) (pv 5) (fun _ _ => rfl)) (pe_dget (hu_of hr) (pv 4) (pv 5) (fun _ _ => rfl))))) pa_nil))))))
      (pss_one (ps_ret (pv 1))))), body_ok ((ref_seq (ref_asgR (ref_fLst ref_nil))
      (ref_seq (ref_for (ref_iRg1 (ref_cons (ref_op rr_add (ref_cb rr_lenB (ref_cons ref_var ref_nil)) ref_int) ref_nil)) ref_gName (ref_seq (ref_asg (ref_F (ref_dc (ref_iAny (ref_call .nil (ref_cons ref_var (ref_cons ref_var ref_nil)))) (ref_bName (by decide)) ref_yes (ref_sub ref_var ref_var) (ref_op rr_add ref_var ref_int))) ref_gName)
      (ref_append (ref_cons (ref_F (ref_dc (ref_iAny (ref_F (ref_fSortDK (ref_cons ref_var ref_nil)))) (ref_bName (by decide)) ref_yes ref_var (ref_sub ref_var ref_var))) ref_nil))))
      (ref_ret ref_var)))) (by decide) h⟩
abbrev s_is_wound : Stmt := topS 15
theorem sc_is_wound : FnScope ["word", "row", "place", "steps", "greatest", "name"] ["word", "row", "place"] (defScope s_is_wound) := ⟨rfl, rfl, rfl, by decide +kernel, rfl, by decide +kernel, by decide +kernel⟩
noncomputable def m_is_wound : MS := (sSeq (sDrop (eCall F_check_place [] (aCons (eV 0) (aCons (eV 2) aNil))))
  (sSeq (sAsg (eCall F_greatest_steps [] (aCons (eV 0) aNil)) (setD 3))
  (sSeq (sAsg (eV 2) (setD 4))
  (sSeq (sForD (iAny (eV 1)) (setD 5) (sSeq (sIf (tOfE (eOp (fIn true) (eV 5) (eOp fSubs (eV 3) (eV 4)))) (sRet (eC (.bool false))) sNext)
  (sAsg (eOp fSubs (eOp fSubs (eV 3) (eV 4)) (eV 5)) (setD 4))))
  (sRet (eOp fEqS (eV 4) (eCB fLenB (aCons (eV 0) aNil))))))))
noncomputable def F_is_wound : FV := mDef 3 6 m_is_wound
theorem ok_is_wound {P : Program} {w : World} {K : PySem.W.Frag} {mg : Str → Option Value} {base : Heap} {f : Addr} {fd : FuncData} (F : FnPk K "is_wound" s_is_wound [("place", V.int 0)] f fd) (B : Bi mg) (c_greatest_steps : ClG P w K mg base 7 "greatest_steps" ["word"] (spV K F_greatest_steps)) (c_check_place : ClG P w K mg base 3 "check_place" ["word", "place"] (spV K F_check_place)) :
    FnG P w K mg base CX0 8 f fd ["word", "row", "place"] (spV K F_is_wound) := by
  refine okGN F sc_is_wound (fun vs H Q E h => spV_len h) (fun cdv A outer s H vs Q E hg hr h => ?_)
  exact ⟨_, (pss_cons (ps_expr (pe_clG c_check_place hg hr (by decide) (by rfl) (pa_cons (pv 0) (pa_cons (pv 2) pa_nil))))
      (pss_cons (ps_set (i := 3) sc_is_wound.nd rfl (Or.inl rfl) (pe_clG c_greatest_steps hg hr (by decide) (by rfl) (pa_cons (pv 0) pa_nil)))
      (pss_cons (ps_set (i := 4) sc_is_wound.nd rfl (Or.inl rfl) (pv 2))
      (pss_cons (ps_for PassesOwn.never rfl (pi_any (K := K) rfl (pv 1)) (pg_name (i := 5) sc_is_wound.nd rfl (Or.inl rfl)) (pss_cons (ps_if (pt_orT (pt_cmpR (op_notInA (K := K) rfl (hu65_of hr)) (pv 5) (pe_orE (pe_ix ix_any (pv 3) (pv 4) (fun _ _ => rfl)) (pe_dget (hu_of hr) (pv 3) (pv 4) (fun _ _ => rfl))) rfl) (pt_cmp (pc_dnotin (hu_of hr) (pv 5) (pe_orE (pe_ix ix_any (pv 3) (pv 4) (fun _ _ => rfl)) (pe_dget (hu_of hr) (pv 3) (pv 4) (fun _ _ => rfl)))))) (pss_one (ps_ret pe_bl)) pss_nil)
      (pss_one (ps_set (i := 4) sc_is_wound.nd rfl (Or.inl rfl) (pe_orE (pe_ix ix_any (pe_orE (pe_ix ix_any (pv 3) (pv 4) (fun _ _ => rfl)) (pe_dget (hu_of hr) (pv 3) (pv 4) (fun _ _ => rfl))) (pv 5) (fun _ _ => rfl)) (pe_dget (hu_of hr) (pe_orE (pe_ix ix_any (pv 3) (pv 4) (fun _ _ => rfl)) (pe_dget (hu_of hr) (pv 3) (pv 4) (fun _ _ => rfl))) (pv 5) (fun _ _ => rfl)))))))
      (pss_one (ps_ret (pe_cmpR (op_eqK (K := K) rfl (hu64_of hr)) (pv 4) (pe_callB len_all (by rfl) B.len (by decide +kernel) (pa_cons (pv 0) pa_nil)) (nomark _)))))))), body_ok ((ref_seq (ref_drop (ref_call .nil (ref_cons ref_var (ref_cons ref_var ref_nil))))
      (ref_seq (ref_asg (ref_call .nil (ref_cons ref_var ref_nil)) ref_gName)
      (ref_seq (ref_asg ref_var ref_gName)
      (ref_seq (ref_for (ref_iAny ref_var) ref_gName (ref_seq (ref_ifS (ref_testOr (ref_in_ rfl ref_var (ref_sub ref_var ref_var))) (ref_ret ref_bl) ref_next)
      (ref_asg (ref_sub (ref_sub ref_var ref_var) ref_var) ref_gName)))
      (ref_ret (ref_op rr_eq ref_var (ref_cb rr_lenB (ref_cons ref_var ref_nil))))))))) (by decide) h⟩
abbrev s_count_ends : Stmt := topS 16
theorem sc_count_ends : FnScope ["steps", "size", "place", "counts", "more", "ahead", "leads", "to"] ["steps", "size"] (defScope s_count_ends) := ⟨rfl, rfl, rfl, by decide +kernel, rfl, by decide +kernel, by decide +kernel⟩
theorem ok_count_ends {P : Program} {w : World} {K : PySem.W.Frag} {mg : Str → Option Value} {base : Heap} {f : Addr} {fd : FuncData} (F : FnP K "count_ends" s_count_ends f fd) (B : Bi mg) :
    FnG P w K mg base CX0 1 f fd ["steps", "size"] (spV K F_count_ends) := by
  refine okGN F sc_count_ends (fun vs H Q E h => spV_len h) (fun cdv A outer s H vs Q E hg hr h => ?_)
  exact ⟨_, (pss_cons (ps_set (i := 3) sc_count_ends.nd rfl (Or.inl rfl) (pe_lst (pa_cons (pe_lc (own := [("place", 2)]) (g := (gName 2)) (tt := tYes) rfl sc_count_ends.nd (pi_range1 (by rfl) B.range (pa_cons (pe_callB len_all (by rfl) B.len (by decide +kernel) (pa_cons (pv 0) pa_nil)) pa_nil)) (blkOk_by (own := [("place", 2)]) (N := ["steps", "size", "place", "counts", "more", "ahead", "leads", "to"]) (sc := defScope s_count_ends) (by decide +kernel)) (fun _ _ _ _ _ => (pg_name (i := 2) sc_count_ends.nd rfl (Or.inl rfl))) (fun _ _ _ _ _ => pts_nil) (fun _ _ _ _ _ => (pe_callTy cr_int (by rfl) B.int (by decide +kernel) (pa_cons (pe_and (pe_cmpR op_ge (pv 1) pe_int (nomark _)) (pe_one (pe_cmpR (op_eqK (K := K) rfl (hu64_of hr)) (pv 2) (pe_op op_sub (pe_callB len_all (by rfl) B.len (by decide +kernel) (pa_cons (pv 0) pa_nil)) pe_int) (nomark _)))) pa_nil)))) pa_nil)))
      (pss_cons (ps_for PassesOwn.never rfl (pi_range1 (by rfl) B.range (pa_cons (pv 1) pa_nil)) (pg_name (i := 4) sc_count_ends.nd rfl (Or.inl rfl)) (pss_cons (ps_set (i := 5) sc_count_ends.nd rfl (Or.inr rfl) (pe_orE (pe_ix ix_any (pv 3) (pv 4) (fun _ _ => rfl)) (pe_dget (hu_of hr) (pv 3) (pv 4) (fun _ _ => rfl))))
      (pss_one (ps_expr (pe_bm PySem.F.plainAttrs_list PySem.F.slot_list_append PySem.F.type_list_append mt_append (pv 3) (pa_cons (pe_lc (own := [("leads", 6)]) (g := (gName 6)) (tt := tYes) rfl sc_count_ends.nd (pi_any (K := K) rfl (pv 0)) (blkOk_by (own := [("leads", 6)]) (N := ["steps", "size", "place", "counts", "more", "ahead", "leads", "to"]) (sc := defScope s_count_ends) (by decide +kernel)) (fun _ _ _ _ _ => (pg_name (i := 6) sc_count_ends.nd rfl (Or.inl rfl))) (fun _ _ _ _ _ => pts_nil) (fun _ _ _ _ _ => (pe_callB (cr_sum rfl) (by rfl) B.sum (by decide +kernel) (pa_cons (pe_lc (own := [("to", 7)]) (g := (gName 7)) (tt := tYes) rfl sc_count_ends.nd (pi_valsA (pv 6)) (blkOk_by (own := [("to", 7)]) (N := ["steps", "size", "place", "counts", "more", "ahead", "leads", "to"]) (by kernel_rfl)) (fun _ _ _ _ _ => (pg_name (i := 7) sc_count_ends.nd rfl (Or.inl rfl))) (fun _ _ _ _ _ => pts_nil) (fun _ _ _ _ _ => (pe_orE (pe_ix ix_any (pv 5) (pv 7) (fun _ _ => rfl)) (pe_dget (hu_of hr) (pv 5) (pv 7) (fun _ _ => rfl))))) pa_nil)))) pa_nil))))))
      (pss_one (ps_ret (pv 3))))), body_ok ((ref_seq (ref_asgR (ref_fLst (ref_cons (ref_F (ref_lc (ref_iRg1 (ref_cons (ref_cb rr_lenB (ref_cons ref_var ref_nil)) ref_nil)) (ref_bName (by decide)) ref_yes (ref_cb rr_int (ref_cons (ref_andV (ref_op rr_IB ref_var ref_int) (ref_op rr_eq ref_var (ref_op rr_I (ref_cb rr_lenB (ref_cons ref_var ref_nil)) ref_int))) ref_nil)))) ref_nil)))
      (ref_seq (ref_for (ref_iRg1 (ref_cons ref_var ref_nil)) ref_gName (ref_seq (ref_asg (ref_sub ref_var ref_var) ref_gName)
      (ref_append (ref_cons (ref_F (ref_lc (ref_iAny ref_var) (ref_bName (by decide)) ref_yes (ref_cb rr_sum (ref_cons (ref_F (ref_lc (ref_iVal ref_var) (ref_bName (by decide)) ref_yes (ref_sub ref_var ref_var))) ref_nil)))) ref_nil))))
      (ref_ret ref_var)))) (by decide) h⟩
abbrev s_count_wound : Stmt := topS 17
theorem sc_count_wound : FnScope ["word", "size"] ["word", "size"] (defScope s_count_wound) := ⟨rfl, rfl, rfl, by decide +kernel, rfl, by decide +kernel, by decide +kernel⟩
theorem ok_count_wound {P : Program} {w : World} {K : PySem.W.Frag} {mg : Str → Option Value} {base : Heap} {f : Addr} {fd : FuncData} (F : FnP K "count_wound" s_count_wound f fd) (B : Bi mg) (c_count_ends : ClG P w K mg base 1 "count_ends" ["steps", "size"] (spV K F_count_ends)) (c_greatest_steps : ClG P w K mg base 7 "greatest_steps" ["word"] (spV K F_greatest_steps)) :
    FnG P w K mg base CX0 8 f fd ["word", "size"] (spV K F_count_wound) := by
  refine okGN F sc_count_wound (fun vs H Q E h => spV_len h) (fun cdv A outer s H vs Q E hg hr h => ?_)
  exact ⟨_, (pss_one (ps_ret (pe_orE (pe_ix ix_any (pe_orE (pe_ix ix_any (pe_clG c_count_ends hg hr (by decide) (by rfl) (pa_cons (pe_clG c_greatest_steps hg hr (by decide) (by rfl) (pa_cons (pv 0) pa_nil)) (pa_cons (pv 1) pa_nil))) (pe_un un_neg pe_int) (fun _ _ => rfl)) (pe_dget (hu_of hr) (pe_clG c_count_ends hg hr (by decide) (by rfl) (pa_cons (pe_clG c_greatest_steps hg hr (by decide) (by rfl) (pa_cons (pv 0) pa_nil)) (pa_cons (pv 1) pa_nil))) (pe_un un_neg pe_int) (fun _ _ => rfl))) pe_int (fun _ _ => rfl)) (pe_dget (hu_of hr) (pe_orE (pe_ix ix_any (pe_clG c_count_ends hg hr (by decide) (by rfl) (pa_cons (pe_clG c_greatest_steps hg hr (by decide) (by rfl) (pa_cons (pv 0) pa_nil)) (pa_cons (pv 1) pa_nil))) (pe_un un_neg pe_int) (fun _ _ => rfl)) (pe_dget (hu_of hr) (pe_clG c_count_ends hg hr (by decide) (by rfl) (pa_cons (pe_clG c_greatest_steps hg hr (by decide) (by rfl) (pa_cons (pv 0) pa_nil)) (pa_cons (pv 1) pa_nil))) (pe_un un_neg pe_int) (fun _ _ => rfl))) pe_int (fun _ _ => rfl))))), body_ok ((ref_ret (ref_sub (ref_sub (ref_call .nil (ref_cons (ref_call .nil (ref_cons ref_var ref_nil)) (ref_cons ref_var ref_nil))) (ref_un rr_neg ref_int)) ref_int))) (by decide) h⟩
abbrev s_first_step : Stmt := topS 18
theorem sc_first_step : FnScope ["leads", "ends", "number", "ahead", "name", "to"] ["leads", "ends", "number"] (defScope s_first_step) := ⟨rfl, rfl, rfl, by decide +kernel, rfl, by decide +kernel, by decide +kernel⟩
noncomputable def m_first_step : MS := (sSeq (sAsg (eV 2) (setD 3))
  (sSeq (sForD (iItm (eV 0)) (gTupD 2 (gsCons (setD 4) (gsCons (setD 5) gsNil))) (sSeq (sIf (tOfE (eOp fLtA (eV 3) (eOp fSubs (eV 1) (eV 5)))) (sRet (eTup (aCons (eV 4) (aCons (eV 5) (aCons (eV 3) aNil))))) sNext)
  (sAug 3 fSub (eOp fSubs (eV 1) (eV 5)))))
  (sRet (eC .none))))
noncomputable def F_first_step : FV := mDef 3 6 m_first_step
theorem ok_first_step {P : Program} {w : World} {K : PySem.W.Frag} {mg : Str → Option Value} {base : Heap} {f : Addr} {fd : FuncData} (F : FnP K "first_step" s_first_step f fd) (B : Bi mg) :
    FnG P w K mg base CX0 1 f fd ["leads", "ends", "number"] (spV K F_first_step) := by
  refine okGN F sc_first_step (fun vs H Q E h => spV_len h) (fun cdv A outer s H vs Q E hg hr h => ?_)
  exact ⟨_, (pss_cons (ps_set (i := 3) sc_first_step.nd rfl (Or.inl rfl) (pv 2))
      (pss_cons (ps_for PassesOwn.never rfl (pi_itemsA (pv 0)) (pg_tup rfl (pgs_cons (pg_name (i := 4) sc_first_step.nd rfl (Or.inl rfl)) (pgs_cons (pg_name (i := 5) sc_first_step.nd rfl (Or.inl rfl)) pgs_nil))) (pss_cons (ps_if (pt_cmpR (op_ltA (K := K) rfl (hu70_of hr)) (pv 3) (pe_orE (pe_ix ix_any (pv 1) (pv 5) (fun _ _ => rfl)) (pe_dget (hu_of hr) (pv 1) (pv 5) (fun _ _ => rfl))) (nomark _)) (pss_one (ps_ret (pe_tup (pa_cons (pv 4) (pa_cons (pv 5) (pa_cons (pv 3) pa_nil)))))) pss_nil)
      (pss_one (ps_aug (i := 3) sc_first_step.nd rfl (Or.inl rfl) (pe_orE (pe_ix ix_any (pv 1) (pv 5) (fun _ _ => rfl)) (pe_dget (hu_of hr) (pv 1) (pv 5) (fun _ _ => rfl))) ip_sub))))
      (pss_one (ps_ret pe_non)))), body_ok ((ref_seq (ref_asg ref_var ref_gName)
      (ref_seq (ref_for (ref_iItm ref_var) (ref_gTup (ref_gCons ref_gName (ref_gCons ref_gName ref_gNil))) (ref_seq (ref_ifS (ref_test (ref_op rr_ltA ref_var (ref_sub ref_var ref_var))) (ref_ret (ref_tup (ref_cons ref_var (ref_cons ref_var (ref_cons ref_var ref_nil))))) ref_next)
      (ref_aug rr_subI (ref_sub ref_var ref_var))))
      (ref_ret ref_non)))) (by decide) h⟩
abbrev s_wound_at : Stmt := topS 19
theorem sc_wound_at : FnScope ["word", "size", "number", "steps", "counts", "row", "place", "left", "ends", "name"] ["word", "size", "number"] (defScope s_wound_at) := ⟨rfl, rfl, rfl, by decide +kernel, rfl, by decide +kernel, by decide +kernel⟩
noncomputable def m_wound_at : MS := (sSeq (sAsg (eCall F_greatest_steps [] (aCons (eV 0) aNil)) (setD 3))
  (sSeq (sAsg (eCall F_count_ends [] (aCons (eV 3) (aCons (eV 1) aNil))) (setD 4))
  (sSeq (sIf (mOr (mNot (mTru (eCall F_is_whole [] (aCons (eV 2) aNil)))) (mNot (tOfE (eChain fLe fLt (eC (.int 0)) (eV 2) (eOp fSubs (eOp fSubs (eV 4) (eUn fNeg (eC (.int 1)))) (eC (.int 0))))))) sDead sNext)
  (sSeq (sAsgR 5 (fLst aNil))
  (sSeq (sAsg (eC (.int 0)) (setD 6))
  (sSeq (sAsg (eV 2) (setD 7))
  (sSeq (sForD (iRv (eSl (eV 4) oNone (oSome (eUn fNeg (eC (.int 1)))))) (setD 8) (sSeq (sAsg (eCall F_first_step [] (aCons (eOp fSubs (eV 3) (eV 6)) (aCons (eV 8) (aCons (eV 7) aNil)))) (gTupD 3 (gsCons (setD 9) (gsCons (setD 6) (gsCons (setD 7) gsNil)))))
  (sAppend 5 (aCons (eV 9) aNil))))
  (sRet (eCB fTuple (aCons (eV 5) aNil))))))))))
noncomputable def F_wound_at : FV := mDef 3 10 m_wound_at
theorem ok_wound_at {P : Program} {w : World} {K : PySem.W.Frag} {mg : Str → Option Value} {base : Heap} {f : Addr} {fd : FuncData} (F : FnP K "wound_at" s_wound_at f fd) (B : Bi mg) (c_first_step : ClG P w K mg base 1 "first_step" ["leads", "ends", "number"] (spV K F_first_step)) (c_is_whole : ClG P w K mg base 1 "is_whole" ["thing"] (spV K F_is_whole)) (c_count_ends : ClG P w K mg base 1 "count_ends" ["steps", "size"] (spV K F_count_ends)) (c_greatest_steps : ClG P w K mg base 7 "greatest_steps" ["word"] (spV K F_greatest_steps)) :
    FnG P w K mg base CX0 8 f fd ["word", "size", "number"] (spV K F_wound_at) := by
  refine okGN F sc_wound_at (fun vs H Q E h => spV_len h) (fun cdv A outer s H vs Q E hg hr h => ?_)
  exact ⟨_, (pss_cons (ps_set (i := 3) sc_wound_at.nd rfl (Or.inl rfl) (pe_clG c_greatest_steps hg hr (by decide) (by rfl) (pa_cons (pv 0) pa_nil)))
      (pss_cons (ps_set (i := 4) sc_wound_at.nd rfl (Or.inl rfl) (pe_clG c_count_ends hg hr (by decide) (by rfl) (pa_cons (pv 3) (pa_cons (pv 1) pa_nil))))
      (pss_cons (ps_if ((pw_or (pt_not (pt_tru (pe_clG c_is_whole hg hr (by decide) (by rfl) (pa_cons (pv 2) pa_nil)))) (pw_or1 (pt_not (pt_chain op_le op_lt pe_int (pv 2) (pe_orE (pe_ix ix_any (pe_orE (pe_ix ix_any (pv 4) (pe_un un_neg pe_int) (fun _ _ => rfl)) (pe_dget (hu_of hr) (pv 4) (pe_un un_neg pe_int) (fun _ _ => rfl))) pe_int (fun _ _ => rfl)) (pe_dget (hu_of hr) (pe_orE (pe_ix ix_any (pv 4) (pe_un un_neg pe_int) (fun _ _ => rfl)) (pe_dget (hu_of hr) (pv 4) (pe_un un_neg pe_int) (fun _ _ => rfl))) pe_int (fun _ _ => rfl)))))))).pt (pss_one Gk.ps_dead) pss_nil)
      (pss_cons (ps_set (i := 5) sc_wound_at.nd rfl (Or.inl rfl) (pe_lst pa_nil))
      (pss_cons (ps_set (i := 6) sc_wound_at.nd rfl (Or.inl rfl) pe_int)
      (pss_cons (ps_set (i := 7) sc_wound_at.nd rfl (Or.inl rfl) (pv 2))
      (pss_cons (ps_for PassesOwn.never rfl (pi_rv (K := K) rfl (by rfl) B.reversed (pe_slice sl_any (pv 4) po_none (po_some (pe_un un_neg pe_int)))) (pg_name (i := 8) sc_wound_at.nd rfl (Or.inl rfl)) (pss_cons (ps_asg (pe_clG c_first_step hg hr (by decide) (by rfl) (pa_cons (pe_orE (pe_ix ix_any (pv 3) (pv 6) (fun _ _ => rfl)) (pe_dget (hu_of hr) (pv 3) (pv 6) (fun _ _ => rfl))) (pa_cons (pv 8) (pa_cons (pv 7) pa_nil)))) (pg_tup rfl (pgs_cons (pg_name (i := 9) sc_wound_at.nd rfl (Or.inl rfl)) (pgs_cons (pg_name (i := 6) sc_wound_at.nd rfl (Or.inl rfl)) (pgs_cons (pg_name (i := 7) sc_wound_at.nd rfl (Or.inl rfl)) pgs_nil)))))
      (pss_one (ps_expr (pe_bm PySem.F.plainAttrs_list PySem.F.slot_list_append PySem.F.type_list_append mt_append (pv 5) (pa_cons (pv 9) pa_nil))))))
      (pss_one (ps_ret (pe_callTy tuple_any (by rfl) B.tuple (by decide +kernel) (pa_cons (pv 5) pa_nil))))))))))), body_ok ((ref_seq (ref_asg (ref_call .nil (ref_cons ref_var ref_nil)) ref_gName)
      (ref_seq (ref_asg (ref_call .nil (ref_cons ref_var (ref_cons ref_var ref_nil))) ref_gName)
      (ref_seq (ref_ifS (ref_or (ref_not (ref_tru (ref_call .nil (ref_cons ref_var ref_nil)))) (ref_not (ref_test (ref_chain rr_IB rr_IB ref_int ref_var (ref_sub (ref_sub ref_var (ref_un rr_neg ref_int)) ref_int))))) ref_dead ref_next)
      (ref_seq (ref_asgR (ref_fLst ref_nil))
      (ref_seq (ref_asg ref_int ref_gName)
      (ref_seq (ref_asg ref_var ref_gName)
      (ref_seq (ref_for (ref_iRev (ref_sl ref_var ref_oNone (ref_oSome (ref_un rr_neg ref_int)))) ref_gName (ref_seq (ref_asg (ref_call .nil (ref_cons (ref_sub ref_var ref_var) (ref_cons ref_var (ref_cons ref_var ref_nil)))) (ref_gTup (ref_gCons ref_gName (ref_gCons ref_gName (ref_gCons ref_gName ref_gNil)))))
      (ref_append (ref_cons ref_var ref_nil))))
      (ref_ret (ref_cb rr_tuple (ref_cons ref_var ref_nil))))))))))) (by decide) h⟩
abbrev s_wound_rows : Stmt := topS 20
theorem sc_wound_rows : FnScope ["word", "size", "steps", "counts", "many", "begun", "ends", "row", "at", "name", "to"] ["word", "size"] (defScope s_wound_rows) := ⟨rfl, rfl, rfl, by decide +kernel, rfl, by decide +kernel, by decide +kernel⟩
noncomputable def m_wound_rows : MS := (sSeq (sAsg (eCall F_greatest_steps [] (aCons (eV 0) aNil)) (setD 2))
  (sSeq (sAsg (eCall F_count_ends [] (aCons (eV 2) (aCons (eV 1) aNil))) (setD 3))
  (sSeq (sAsg (eOp fSubs (eOp fSubs (eV 3) (eUn fNeg (eC (.int 1)))) (eC (.int 0))) (setD 4))
  (sSeq (sIf (tOfE (eOp fGt (eV 4) (eC (.int 1000)))) sDead sNext)
  (sSeq (sIf (tOfE (eOp fEqS (eV 4) (eC (.int 0)))) (sRet (eTup aNil)) sNext)
  (sSeq (sAsg (eF (fLst (aCons (eTup (aCons (eTup aNil) (aCons (eC (.int 0)) aNil))) aNil))) (setD 5))
  (sSeq (sForD (iRv (eSl (eV 3) oNone (oSome (eUn fNeg (eC (.int 1)))))) (setD 6) (sAsg (eF (fLc (cmI (iAny (eV 5)) [7, 8, 9, 10] (gTupD 2 (gsCons (setD 7) (gsCons (setD 8) gsNil))) tYesM (cmI (iItm (eOp fSubs (eV 2) (eV 8))) [9, 10] (gTupD 2 (gsCons (setD 9) (gsCons (setD 10) gsNil))) (mTru (eOp fSubs (eV 6) (eV 10))) (mLc (eTup (aCons (eTup (aStar (eV 7) (aCons (eV 9) aNil))) (aCons (eV 10) aNil)))))))) (setD 5)))
  (sRet (eCB fTuple (aCons (eF (fLc (cmI (iAny (eV 5)) [7, 8] (gTupD 2 (gsCons (setD 7) (gsCons (setD 8) gsNil))) tYesM (mLc (eV 7))))) aNil))))))))))
noncomputable def F_wound_rows : FV := mDef 2 11 m_wound_rows
theorem ok_wound_rows {P : Program} {w : World} {K : PySem.W.Frag} {mg : Str → Option Value} {base : Heap} {f : Addr} {fd : FuncData} (F : FnP K "wound_rows" s_wound_rows f fd) (B : Bi mg) (c_count_ends : ClG P w K mg base 1 "count_ends" ["steps", "size"] (spV K F_count_ends)) (c_greatest_steps : ClG P w K mg base 7 "greatest_steps" ["word"] (spV K F_greatest_steps)) (c_MOST_ROWS : Con mg "MOST_ROWS" (.int 1000)) :
    FnG P w K mg base CX0 8 f fd ["word", "size"] (spV K F_wound_rows) := by
  refine okGN F sc_wound_rows (fun vs H Q E h => spV_len h) (fun cdv A outer s H vs Q E hg hr h => ?_)
  exact ⟨_, (pss_cons (ps_set (i := 2) sc_wound_rows.nd rfl (Or.inr rfl) (pe_clG c_greatest_steps hg hr (by decide) (by rfl) (pa_cons (pv 0) pa_nil)))
      (pss_cons (ps_set (i := 3) sc_wound_rows.nd rfl (Or.inl rfl) (pe_clG c_count_ends hg hr (by decide) (by rfl) (pa_cons (pv 2) (pa_cons (pv 1) pa_nil))))
      (pss_cons (ps_set (i := 4) sc_wound_rows.nd rfl (Or.inl rfl) (pe_orE (pe_ix ix_any (pe_orE (pe_ix ix_any (pv 3) (pe_un un_neg pe_int) (fun _ _ => rfl)) (pe_dget (hu_of hr) (pv 3) (pe_un un_neg pe_int) (fun _ _ => rfl))) pe_int (fun _ _ => rfl)) (pe_dget (hu_of hr) (pe_orE (pe_ix ix_any (pv 3) (pe_un un_neg pe_int) (fun _ _ => rfl)) (pe_dget (hu_of hr) (pv 3) (pe_un un_neg pe_int) (fun _ _ => rfl))) pe_int (fun _ _ => rfl))))
      (pss_cons (ps_if (pt_cmpR op_gt (pv 4) (pe_k (by rfl) c_MOST_ROWS) (nomark _)) (pss_one Gk.ps_dead) pss_nil)
      (pss_cons (ps_if (pt_cmpR (op_eqK (K := K) rfl (hu64_of hr)) (pv 4) pe_int (nomark _)) (pss_one (ps_ret (pe_tup pa_nil))) pss_nil)
      (pss_cons (ps_set (i := 5) sc_wound_rows.nd rfl (Or.inl rfl) (pe_lst (pa_cons (pe_tup (pa_cons (pe_tup pa_nil) (pa_cons pe_int pa_nil))) pa_nil)))
      (pss_cons (ps_for PassesOwn.never rfl (pi_rv (K := K) rfl (by rfl) B.reversed (pe_slice sl_any (pv 3) po_none (po_some (pe_un un_neg pe_int)))) (pg_name (i := 6) sc_wound_rows.nd rfl (Or.inr rfl)) (pss_one (ps_setLc2 (i := 5) (own := [("row", 7), ("at", 8), ("name", 9), ("to", 10)]) (vs1 := [9, 10]) (g := (gTup K 2 (gCons (gName 7) (gCons (gName 8) gNil)))) (g1 := (gTup K 2 (gCons (gName 9) (gCons (gName 10) gNil)))) (tt := tYes) (by rfl) sc_wound_rows.nd rfl rfl (sw_true rfl rfl rfl (by decide +kernel)) (pi_any (K := K) rfl (pv 5)) (blkOk_by (own := [("row", 7), ("at", 8), ("name", 9), ("to", 10)]) (N := ["word", "size", "steps", "counts", "many", "begun", "ends", "row", "at", "name", "to"]) (sc := defScope s_wound_rows) (by decide +kernel)) (by decide) (fun _ _ _ _ _ => (pg_tup rfl (pgs_cons (pg_name (i := 7) sc_wound_rows.nd rfl (Or.inl rfl)) (pgs_cons (pg_name (i := 8) sc_wound_rows.nd rfl (Or.inl rfl)) pgs_nil)))) (fun _ _ _ _ _ => pts_nil) (fun _ _ _ _ _ => (pi_itemsA (pe_orE (pe_ix ix_any (pv 2) (pv 8) (fun _ _ => rfl)) (pe_dget (hu_of hr) (pv 2) (pv 8) (fun _ _ => rfl))))) (fun _ _ _ _ _ => (pg_tup rfl (pgs_cons (pg_name (i := 9) sc_wound_rows.nd rfl (Or.inl rfl)) (pgs_cons (pg_name (i := 10) sc_wound_rows.nd rfl (Or.inl rfl)) pgs_nil)))) (fun _ _ _ _ _ => (pts_one (pt_tru (pe_orE (pe_ix ix_any (pv 6) (pv 10) (fun _ _ => rfl)) (pe_dget (hu_of hr) (pv 6) (pv 10) (fun _ _ => rfl)))))) (fun _ _ _ _ _ => (pe_tup (pa_cons (pe_tup (pa_starK (K := K) rfl (pv 7) (pa_cons (pv 9) pa_nil))) (pa_cons (pv 10) pa_nil)))))))
      (pss_one (ps_ret (pe_callTy tuple_any (by rfl) B.tuple (by decide +kernel) (pa_cons (pe_lc (own := [("row", 7), ("at", 8)]) (g := (gTup K 2 (gCons (gName 7) (gCons (gName 8) gNil)))) (tt := tYes) rfl sc_wound_rows.nd (pi_any (K := K) rfl (pv 5)) (blkOk_by (own := [("row", 7), ("at", 8)]) (N := ["word", "size", "steps", "counts", "many", "begun", "ends", "row", "at", "name", "to"]) (sc := defScope s_wound_rows) (by decide +kernel)) (fun _ _ _ _ _ => (pg_tup rfl (pgs_cons (pg_name (i := 7) sc_wound_rows.nd rfl (Or.inl rfl)) (pgs_cons (pg_name (i := 8) sc_wound_rows.nd rfl (Or.inl rfl)) pgs_nil)))) (fun _ _ _ _ _ => pts_nil) (fun _ _ _ _ _ => (pv 7))) pa_nil))))))))))), body_ok ((ref_seq (ref_asg (ref_call .nil (ref_cons ref_var ref_nil)) ref_gName)
      (ref_seq (ref_asg (ref_call .nil (ref_cons ref_var (ref_cons ref_var ref_nil))) ref_gName)
      (ref_seq (ref_asg (ref_sub (ref_sub ref_var (ref_un rr_neg ref_int)) ref_int) ref_gName)
      (ref_seq (ref_ifS (ref_test (ref_op rr_IB ref_var ref_int)) ref_dead ref_next)
      (ref_seq (ref_ifS (ref_test (ref_op rr_eq ref_var ref_int)) (ref_ret (ref_tup ref_nil)) ref_next)
      (ref_seq (ref_asg (ref_F (ref_fLst (ref_cons (ref_tup (ref_cons (ref_tup ref_nil) (ref_cons ref_int ref_nil))) ref_nil))) ref_gName)
      (ref_seq (ref_for (ref_iRev (ref_sl ref_var ref_oNone (ref_oSome (ref_un rr_neg ref_int)))) ref_gName (ref_asg (ref_F (ref_lc2 (ref_iAny ref_var) (ref_bTup (ref_bCons (ref_bName (by decide)) (ref_bCons (ref_bName (by decide)) ref_bNil))) ref_yes (ref_iItm (ref_sub ref_var ref_var)) (ref_bTup (ref_bCons (ref_bName (by decide)) (ref_bCons (ref_bName (by decide)) ref_bNil))) (ref_tru (ref_sub ref_var ref_var)) (ref_tup (ref_cons (ref_tup (ref_star ref_var (ref_cons ref_var ref_nil))) (ref_cons ref_var ref_nil))))) ref_gName))
      (ref_ret (ref_cb rr_tuple (ref_cons (ref_F (ref_lc (ref_iAny ref_var) (ref_bTup (ref_bCons (ref_bName (by decide)) (ref_bCons (ref_bName (by decide)) ref_bNil))) ref_yes ref_var)) ref_nil))))))))))) (by decide) h⟩
abbrev s_law_pot : Stmt := topS 22
theorem sc_law_pot : FnScope ["_law_script", "_law_k", "_law_cell", "_law_great"] ["_law_script", "_law_k"] (defScope s_law_pot) := ⟨rfl, rfl, rfl, by decide +kernel, rfl, by decide +kernel, by decide +kernel⟩
theorem ok_law_pot {P : Program} {w : World} {K : PySem.W.Frag} {mg : Str → Option Value} {base : Heap} {f : Addr} {fd : FuncData} (F : FnP K "_law_pot" s_law_pot f fd) (B : Bi mg) (hd : PySem.W.nsIn K cStatics "sys.int_max_str_digits" = some none) :
    FnG P w K mg base CX0 1 f fd ["_law_script", "_law_k"] (spV K F_law_pot) := by
  refine okGN F sc_law_pot (fun vs H Q E h => spV_len h) (fun cdv A outer s H vs Q E hg hr h => ?_)
  exact ⟨_, (pss_cons (ps_set (i := 2) sc_law_pot.nd rfl (Or.inl rfl) (pe_op op_addA (pe_op op_mul pe_int (pv 1)) (pe_callB (len_L (K := K) rfl) (by rfl) B.len (by decide +kernel) (pa_cons (pv 0) pa_nil))))
      (pss_cons (ps_if (pt_cmpR (op_ltA (K := K) rfl (hu70_of hr)) (pv 1) (pe_callB (len_L (K := K) rfl) (by rfl) B.len (by decide +kernel) (pa_cons (pv 0) pa_nil)) (nomark _)) (pss_one (ps_set (i := 2) sc_law_pot.nd rfl (Or.inl rfl) (pe_ix (ix_L (K := K) rfl) (pv 0) (pv 1) (fun _ _ => rfl)))) pss_nil)
      (pss_cons (ps_set (i := 3) sc_law_pot.nd rfl (Or.inl rfl) (pe_op op_mul (pe_op op_mod (pe_callB cr_abs (by rfl) B.abs (by decide +kernel) (pa_cons (pv 2) pa_nil)) (pe_callTy (cr_big hd) (by rfl) B.int (by decide +kernel) (pa_cons (pe_op op_add_str pe_str (pe_op op_mulStr pe_str pe_int)) pa_nil))) (pe_callTy cr_int (by rfl) B.int (by decide +kernel) (pa_cons (pe_cmpR op_ge (pe_callB cr_abs (by rfl) B.abs (by decide +kernel) (pa_cons (pv 2) pa_nil)) (pe_op op_pow pe_int pe_int) (nomark _)) pa_nil))))
      (pss_one (ps_ret (pe_lst (pa_cons (pv 3) (pa_cons (pe_op op_mod (pe_op op_mul (pe_op op_addA (pe_op op_addA (pe_op op_mod (pv 2) pe_int) (pe_op op_mul (pe_op op_mul pe_int (pv 1)) (pv 1))) pe_int) pe_int) pe_int) pa_nil)))))))), body_ok ((ref_seq (ref_asg (ref_op rr_add (ref_op rr_mul ref_int ref_var) ref_scLen) ref_gName)
      (ref_seq (ref_ifS (ref_test (ref_op rr_ltA ref_var ref_scLen)) (ref_asg (ref_scIx ref_var) ref_gName) ref_next)
      (ref_seq (ref_asg (ref_op rr_mul (ref_op rr_mod (ref_cb rr_abs (ref_cons ref_var ref_nil)) (ref_big fun _ _ _ h => big_arg h)) (ref_cb rr_int (ref_cons (ref_op rr_IB (ref_cb rr_abs (ref_cons ref_var ref_nil)) (ref_op rr_pow ref_int ref_int)) ref_nil))) ref_gName)
      (ref_retF (ref_fLst (ref_cons ref_var (ref_cons (ref_op rr_mod (ref_op rr_mul (ref_op rr_add (ref_op rr_add (ref_op rr_mod ref_var ref_int) (ref_op rr_mul (ref_op rr_mul ref_int ref_var) ref_var)) ref_int) ref_int) ref_int) ref_nil)))))))) (by decide) h⟩
abbrev s_law_take : Stmt := topS 23
theorem sc_law_take : FnScope ["_law_pot_here", "_law_upto", "_law_digit"] ["_law_pot_here", "_law_upto"] (defScope s_law_take) := ⟨rfl, rfl, rfl, by decide +kernel, rfl, by decide +kernel, by decide +kernel⟩
theorem ok_law_take {P : Program} {w : World} {K : PySem.W.Frag} {mg : Str → Option Value} {base : Heap} {f : Addr} {fd : FuncData} (F : FnP K "_law_take" s_law_take f fd) (B : Bi mg) :
    FnG P w K mg base CX0 1 f fd ["_law_pot_here", "_law_upto"] (spV K F_law_take) := by
  refine okGN F sc_law_take (fun vs H Q E h => spV_len h) (fun cdv A outer s H vs Q E hg hr h => ?_)
  exact ⟨_, (pss_cons (ps_if (pt_cmpR op_gt (pe_orE (pe_ix ix_any (pv 0) pe_int (fun _ _ => rfl)) (pe_dget (hu_of hr) (pv 0) pe_int (fun _ _ => rfl))) pe_int (nomark _)) (pss_cons (ps_set (i := 2) sc_law_take.nd rfl (Or.inl rfl) (pe_op op_mod (pe_orE (pe_ix ix_any (pv 0) pe_int (fun _ _ => rfl)) (pe_dget (hu_of hr) (pv 0) pe_int (fun _ _ => rfl))) (pv 1)))
      (pss_cons (ps_orS (ps_asg (pe_op op_fdiv (pe_orE (pe_ix ix_any (pv 0) pe_int (fun _ _ => rfl)) (pe_dget (hu_of hr) (pv 0) pe_int (fun _ _ => rfl))) (pv 1)) (pg_sub (pv 0) pe_int set_list)) (ps_dput (hu_of hr) (pv 0) pe_int (pe_op op_fdiv (pe_orE (pe_ix ix_any (pv 0) pe_int (fun _ _ => rfl)) (pe_dget (hu_of hr) (pv 0) pe_int (fun _ _ => rfl))) (pv 1)) (by rfl)))
      (pss_one (ps_ret (pv 2))))) pss_nil)
      (pss_cons (ps_orS (ps_asg (pe_op op_mod (pe_op op_addA (pe_op op_mul (pe_orE (pe_ix ix_any (pv 0) pe_int (fun _ _ => rfl)) (pe_dget (hu_of hr) (pv 0) pe_int (fun _ _ => rfl))) pe_int) pe_int) pe_int) (pg_sub (pv 0) pe_int set_list)) (ps_dput (hu_of hr) (pv 0) pe_int (pe_op op_mod (pe_op op_addA (pe_op op_mul (pe_orE (pe_ix ix_any (pv 0) pe_int (fun _ _ => rfl)) (pe_dget (hu_of hr) (pv 0) pe_int (fun _ _ => rfl))) pe_int) pe_int) pe_int) (by rfl)))
      (pss_one (ps_ret (pe_op op_mod (pe_op op_fdiv (pe_op op_mod (pe_op op_mul (pe_op op_fdiv (pe_orE (pe_ix ix_any (pv 0) pe_int (fun _ _ => rfl)) (pe_dget (hu_of hr) (pv 0) pe_int (fun _ _ => rfl))) pe_int) (pe_op op_addA (pe_op op_mod (pe_orE (pe_ix ix_any (pv 0) pe_int (fun _ _ => rfl)) (pe_dget (hu_of hr) (pv 0) pe_int (fun _ _ => rfl))) pe_int) pe_int)) pe_int) pe_int) (pv 1)))))), body_ok ((ref_seq (ref_ifS (ref_test (ref_op rr_IB (ref_sub ref_var ref_int) ref_int)) (ref_seq (ref_asg (ref_op rr_mod (ref_sub ref_var ref_int) ref_var) ref_gName)
      (ref_seq (ref_setI (ref_op rr_div (ref_sub ref_var ref_int) ref_var) ref_int)
      (ref_ret ref_var))) ref_next)
      (ref_seq (ref_setI (ref_op rr_mod (ref_op rr_add (ref_op rr_mul (ref_sub ref_var ref_int) ref_int) ref_int) ref_int) ref_int)
      (ref_ret (ref_op rr_mod (ref_op rr_div (ref_op rr_mod (ref_op rr_mul (ref_op rr_div (ref_sub ref_var ref_int) ref_int) (ref_op rr_add (ref_op rr_mod (ref_sub ref_var ref_int) ref_int) ref_int)) ref_int) ref_int) ref_var))))) (by decide) h⟩
abbrev s_law_of : Stmt := topS 24
theorem sc_law_of : FnScope ["_law_pot_here", "_law_some"] ["_law_pot_here", "_law_some"] (defScope s_law_of) := ⟨rfl, rfl, rfl, by decide +kernel, rfl, by decide +kernel, by decide +kernel⟩
theorem ok_law_of {P : Program} {w : World} {K : PySem.W.Frag} {mg : Str → Option Value} {base : Heap} {f : Addr} {fd : FuncData} (F : FnP K "_law_of" s_law_of f fd) (B : Bi mg) (c_law_take : ClG P w K mg base 1 "_law_take" ["_law_pot_here", "_law_upto"] (spV K F_law_take)) :
    FnG P w K mg base CX0 2 f fd ["_law_pot_here", "_law_some"] (spV K F_law_of) := by
  refine okGN F sc_law_of (fun vs H Q E h => spV_len h) (fun cdv A outer s H vs Q E hg hr h => ?_)
  exact ⟨_, (pss_one (ps_ret (pe_orE (pe_ix ix_any (pv 1) (pe_clG c_law_take hg hr (by decide) (by rfl) (pa_cons (pv 0) (pa_cons (pe_callB len_all (by rfl) B.len (by decide +kernel) (pa_cons (pv 1) pa_nil)) pa_nil))) (fun _ _ => rfl)) (pe_dget (hu_of hr) (pv 1) (pe_clG c_law_take hg hr (by decide) (by rfl) (pa_cons (pv 0) (pa_cons (pe_callB len_all (by rfl) B.len (by decide +kernel) (pa_cons (pv 1) pa_nil)) pa_nil))) (fun _ _ => rfl))))), body_ok ((ref_ret (ref_sub ref_var (ref_call .nil (ref_cons ref_var (ref_cons (ref_cb rr_lenB (ref_cons ref_var ref_nil)) ref_nil)))))) (by decide) h⟩
abbrev s_law_names : Stmt := topS 25
theorem sc_law_names : FnScope ["_law_pot_here", "_law_many", "_law_stem", "_law_at", "_law_first", "_law_leap", "_law_letters", "_law_k", "_law_letter"] ["_law_pot_here", "_law_many"] (defScope s_law_names) := ⟨rfl, rfl, rfl, by decide +kernel, rfl, by decide +kernel, by decide +kernel⟩
theorem ok_law_names {P : Program} {w : World} {K : PySem.W.Frag} {mg : Str → Option Value} {base : Heap} {f : Addr} {fd : FuncData} (F : FnP K "_law_names" s_law_names f fd) (B : Bi mg) (c_law_of : ClG P w K mg base 2 "_law_of" ["_law_pot_here", "_law_some"] (spV K F_law_of)) (c_law_take : ClG P w K mg base 1 "_law_take" ["_law_pot_here", "_law_upto"] (spV K F_law_take)) :
    FnG P w K mg base CX0 3 f fd ["_law_pot_here", "_law_many"] (spV K F_law_names) := by
  refine okGN F sc_law_names (fun vs H Q E h => spV_len h) (fun cdv A outer s H vs Q E hg hr h => ?_)
  exact ⟨_, (pss_cons (ps_set (i := 2) sc_law_names.nd rfl (Or.inr rfl) (pe_joinH pe_str (pe_lc (own := [("_law_k", 7)]) (g := (gName 7)) (tt := tYes) rfl sc_law_names.nd (pi_range1 (by rfl) B.range (pa_cons (pe_clG c_law_take hg hr (by decide) (by rfl) (pa_cons (pv 0) (pa_cons pe_int pa_nil))) pa_nil)) (blkOk_by (own := [("_law_k", 7)]) (N := ["_law_pot_here", "_law_many", "_law_stem", "_law_at", "_law_first", "_law_leap", "_law_letters", "_law_k", "_law_letter"]) (sc := defScope s_law_names) (by decide +kernel)) (fun _ _ _ _ _ => (pg_name (i := 7) sc_law_names.nd rfl (Or.inl rfl))) (fun _ _ _ _ _ => pts_nil) (fun _ _ _ _ _ => (pe_clG c_law_of hg hr (by decide) (by rfl) (pa_cons (pv 0) (pa_cons (pe_callTy (list_any rfl) (by rfl) B.list (by decide +kernel) (pa_cons pe_str pa_nil)) pa_nil)))))))
      (pss_cons (ps_asg (pe_tup (pa_cons (pe_clG c_law_take hg hr (by decide) (by rfl) (pa_cons (pv 0) (pa_cons (pe_op op_addA (pe_callB len_all (by rfl) B.len (by decide +kernel) (pa_cons (pv 2) pa_nil)) pe_int) pa_nil))) (pa_cons (pe_clG c_law_take hg hr (by decide) (by rfl) (pa_cons (pv 0) (pa_cons pe_int pa_nil))) (pa_cons (pe_clG c_law_of hg hr (by decide) (by rfl) (pa_cons (pv 0) (pa_cons (pe_lst (pa_cons pe_int (pa_cons pe_int (pa_cons pe_int (pa_cons pe_int (pa_cons pe_int (pa_cons pe_int pa_nil))))))) pa_nil))) pa_nil)))) (pg_tup rfl (pgs_cons (pg_name (i := 3) sc_law_names.nd rfl (Or.inr rfl)) (pgs_cons (pg_name (i := 4) sc_law_names.nd rfl (Or.inr rfl)) (pgs_cons (pg_name (i := 5) sc_law_names.nd rfl (Or.inr rfl)) pgs_nil)))))
      (pss_cons (ps_setLc (i := 6) (own := [("_law_k", 7)]) (g := (gName 7)) (tt := tYes) (by rfl) sc_law_names.nd rfl rfl (sw_true rfl rfl rfl (by decide +kernel)) (pi_range1 (by rfl) B.range (pa_cons (pv 1) pa_nil)) (blkOk_by (own := [("_law_k", 7)]) (N := ["_law_pot_here", "_law_many", "_law_stem", "_law_at", "_law_first", "_law_leap", "_law_letters", "_law_k", "_law_letter"]) (sc := defScope s_law_names) (by decide +kernel)) (fun _ _ _ _ _ => (pg_name (i := 7) sc_law_names.nd rfl (Or.inl rfl))) (fun _ _ _ _ _ => pts_nil) (fun _ _ _ _ _ => (pe_orE (pe_ix ix_any pe_str (pe_op op_mod (pe_op op_addA (pv 4) (pe_op op_mul (pv 5) (pv 7))) pe_int) (fun _ _ => rfl)) (pe_dget (hu_of hr) pe_str (pe_op op_mod (pe_op op_addA (pv 4) (pe_op op_mul (pv 5) (pv 7))) pe_int) (fun _ _ => rfl)))))
      (pss_one (ps_ret (pe_callB (cr_sortD (K := K) rfl (hu70_of hr)) (by rfl) B.sorted (by decide +kernel) (pa_cons (pe_lc (own := [("_law_letter", 8)]) (g := (gName 8)) (tt := tYes) rfl sc_law_names.nd (pi_any (K := K) rfl (pv 6)) (blkOk_by (own := [("_law_letter", 8)]) (N := ["_law_pot_here", "_law_many", "_law_stem", "_law_at", "_law_first", "_law_leap", "_law_letters", "_law_k", "_law_letter"]) (sc := defScope s_law_names) (by decide +kernel)) (fun _ _ _ _ _ => (pg_name (i := 8) sc_law_names.nd rfl (Or.inl rfl))) (fun _ _ _ _ _ => pts_nil) (fun _ _ _ _ _ => (pe_op op_addA (pe_op op_addA (pe_slice sl_any (pv 2) po_none (po_some (pv 3))) (pv 8)) (pe_slice sl_any (pv 2) (po_some (pv 3)) po_none)))) pa_nil))))))), body_ok ((ref_seq (ref_asg (ref_join (ref_str (by decide +kernel)) (ref_F (ref_lc (ref_iRg1 (ref_cons (ref_call .nil (ref_cons ref_var (ref_cons ref_int ref_nil))) ref_nil)) (ref_bName (by decide)) ref_yes (ref_call .nil (ref_cons ref_var (ref_cons (ref_F (ref_fList (ref_cons (ref_str (by decide +kernel)) ref_nil))) ref_nil)))))) ref_gName)
      (ref_seq (ref_asg (ref_tup (ref_cons (ref_call .nil (ref_cons ref_var (ref_cons (ref_op rr_add (ref_cb rr_lenB (ref_cons ref_var ref_nil)) ref_int) ref_nil))) (ref_cons (ref_call .nil (ref_cons ref_var (ref_cons ref_int ref_nil))) (ref_cons (ref_call .nil (ref_cons ref_var (ref_cons (ref_F (ref_fLst (ref_cons ref_int (ref_cons ref_int (ref_cons ref_int (ref_cons ref_int (ref_cons ref_int (ref_cons ref_int ref_nil)))))))) ref_nil))) ref_nil)))) (ref_gTup (ref_gCons ref_gName (ref_gCons ref_gName (ref_gCons ref_gName ref_gNil)))))
      (ref_seq (ref_asg (ref_F (ref_lc (ref_iRg1 (ref_cons ref_var ref_nil)) (ref_bName (by decide)) ref_yes (ref_sub (ref_str (by decide +kernel)) (ref_op rr_mod (ref_op rr_add ref_var (ref_op rr_mul ref_var ref_var)) ref_int)))) ref_gName)
      (ref_ret (ref_F (ref_fSort (ref_cons (ref_F (ref_lc (ref_iAny ref_var) (ref_bName (by decide)) ref_yes (ref_op rr_add (ref_op rr_add (ref_sl ref_var ref_oNone (ref_oSome ref_var)) ref_var) (ref_sl ref_var (ref_oSome ref_var) ref_oNone)))) ref_nil)))))))) (by decide) h⟩
abbrev s_law_word : Stmt := topS 26
theorem sc_law_word : FnScope ["_law_pot_here", "_law_names_here", "_law_most", "_law_many", "_law_way", "_law_turn", "_law_ring", "_law_found", "_law_k"] ["_law_pot_here", "_law_names_here", "_law_most"] (defScope s_law_word) := ⟨rfl, rfl, rfl, by decide +kernel, rfl, by decide +kernel, by decide +kernel⟩
theorem ok_law_word {P : Program} {w : World} {K : PySem.W.Frag} {mg : Str → Option Value} {base : Heap} {f : Addr} {fd : FuncData} (F : FnP K "_law_word" s_law_word f fd) (B : Bi mg) (c_law_of : ClG P w K mg base 2 "_law_of" ["_law_pot_here", "_law_some"] (spV K F_law_of)) (c_law_take : ClG P w K mg base 1 "_law_take" ["_law_pot_here", "_law_upto"] (spV K F_law_take)) :
    FnG P w K mg base CX0 3 f fd ["_law_pot_here", "_law_names_here", "_law_most"] (spV K F_law_word) := by
  refine okGN F sc_law_word (fun vs H Q E h => spV_len h) (fun cdv A outer s H vs Q E hg hr h => ?_)
  exact ⟨_, (pss_cons (ps_asg (pe_tup (pa_cons (pe_clG c_law_take hg hr (by decide) (by rfl) (pa_cons (pv 0) (pa_cons (pe_op op_addA (pv 2) pe_int) pa_nil))) (pa_cons (pe_clG c_law_take hg hr (by decide) (by rfl) (pa_cons (pv 0) (pa_cons pe_int pa_nil))) (pa_cons (pe_op op_addA pe_int (pe_clG c_law_take hg hr (by decide) (by rfl) (pa_cons (pv 0) (pa_cons pe_int pa_nil)))) pa_nil)))) (pg_tup rfl (pgs_cons (pg_name (i := 3) sc_law_word.nd rfl (Or.inl rfl)) (pgs_cons (pg_name (i := 4) sc_law_word.nd rfl (Or.inl rfl)) (pgs_cons (pg_name (i := 5) sc_law_word.nd rfl (Or.inr rfl)) pgs_nil)))))
      (pss_cons (ps_set (i := 6) sc_law_word.nd rfl (Or.inr rfl) (pe_lc (own := [("_law_k", 8)]) (g := (gName 8)) (tt := tYes) rfl sc_law_word.nd (pi_range1 (by rfl) B.range (pa_cons (pv 5) pa_nil)) (blkOk_by (own := [("_law_k", 8)]) (N := ["_law_pot_here", "_law_names_here", "_law_most", "_law_many", "_law_way", "_law_turn", "_law_ring", "_law_found", "_law_k"]) (sc := defScope s_law_word) (by decide +kernel)) (fun _ _ _ _ _ => (pg_name (i := 8) sc_law_word.nd rfl (Or.inl rfl))) (fun _ _ _ _ _ => pts_nil) (fun _ _ _ _ _ => (pe_clG c_law_of hg hr (by decide) (by rfl) (pa_cons (pv 0) (pa_cons (pv 1) pa_nil))))))
      (pss_cons (ps_if (pt_cmpR (op_eqK (K := K) rfl (hu64_of hr)) (pv 4) pe_int (nomark _)) (pss_one (ps_ret (pe_callTy tuple_any (by rfl) B.tuple (by decide +kernel) (pa_cons (pe_lc (own := [("_law_k", 8)]) (g := (gName 8)) (tt := tYes) rfl sc_law_word.nd (pi_range1 (by rfl) B.range (pa_cons (pv 3) pa_nil)) (blkOk_by (own := [("_law_k", 8)]) (N := ["_law_pot_here", "_law_names_here", "_law_most", "_law_many", "_law_way", "_law_turn", "_law_ring", "_law_found", "_law_k"]) (sc := defScope s_law_word) (by decide +kernel)) (fun _ _ _ _ _ => (pg_name (i := 8) sc_law_word.nd rfl (Or.inl rfl))) (fun _ _ _ _ _ => pts_nil) (fun _ _ _ _ _ => (pe_clG c_law_of hg hr (by decide) (by rfl) (pa_cons (pv 0) (pa_cons (pv 1) pa_nil))))) pa_nil)))) pss_nil)
      (pss_cons (ps_setLc (i := 7) (own := [("_law_k", 8)]) (g := (gName 8)) (tt := tYes) (by rfl) sc_law_word.nd rfl rfl (sw_true rfl rfl rfl (by decide +kernel)) (pi_range1 (by rfl) B.range (pa_cons (pv 3) pa_nil)) (blkOk_by (own := [("_law_k", 8)]) (N := ["_law_pot_here", "_law_names_here", "_law_most", "_law_many", "_law_way", "_law_turn", "_law_ring", "_law_found", "_law_k"]) (sc := defScope s_law_word) (by decide +kernel)) (fun _ _ _ _ _ => (pg_name (i := 8) sc_law_word.nd rfl (Or.inl rfl))) (fun _ _ _ _ _ => pts_nil) (fun _ _ _ _ _ => (pe_orE (pe_ix ix_any (pv 6) (pe_op op_mod (pv 8) (pv 5)) (fun _ _ => rfl)) (pe_dget (hu_of hr) (pv 6) (pe_op op_mod (pv 8) (pv 5)) (fun _ _ => rfl)))))
      (pss_cons (ps_if ((pw_and (pt_cmpR op_gt (pv 4) pe_int (nomark _)) (pw_and1 (pt_cmpR op_gt (pv 3) pe_int (nomark _))))).pt (pss_one (ps_orS (ps_asg (pe_clG c_law_of hg hr (by decide) (by rfl) (pa_cons (pv 0) (pa_cons (pv 1) pa_nil))) (pg_sub (pv 7) (pe_un un_neg pe_int) set_list)) (ps_dput (hu_of hr) (pv 7) (pe_un un_neg pe_int) (pe_clG c_law_of hg hr (by decide) (by rfl) (pa_cons (pv 0) (pa_cons (pv 1) pa_nil))) (by rfl)))) pss_nil)
      (pss_cons (ps_if ((pw_and (pt_cmpR (op_eqK (K := K) rfl (hu64_of hr)) (pv 4) pe_int (nomark _)) (pw_and1 (pt_cmpR op_gt (pv 3) pe_int (nomark _))))).pt (pss_one (ps_orS (ps_asg (pe_clG c_law_of hg hr (by decide) (by rfl) (pa_cons (pv 0) (pa_cons (pv 1) pa_nil))) (pg_sub (pv 7) pe_int set_list)) (ps_dput (hu_of hr) (pv 7) pe_int (pe_clG c_law_of hg hr (by decide) (by rfl) (pa_cons (pv 0) (pa_cons (pv 1) pa_nil))) (by rfl)))) pss_nil)
      (pss_one (ps_ret (pe_callTy tuple_any (by rfl) B.tuple (by decide +kernel) (pa_cons (pv 7) pa_nil)))))))))), body_ok ((ref_seq (ref_asg (ref_tup (ref_cons (ref_call .nil (ref_cons ref_var (ref_cons (ref_op rr_add ref_var ref_int) ref_nil))) (ref_cons (ref_call .nil (ref_cons ref_var (ref_cons ref_int ref_nil))) (ref_cons (ref_op rr_add ref_int (ref_call .nil (ref_cons ref_var (ref_cons ref_int ref_nil)))) ref_nil)))) (ref_gTup (ref_gCons ref_gName (ref_gCons ref_gName (ref_gCons ref_gName ref_gNil)))))
      (ref_seq (ref_asg (ref_F (ref_lc (ref_iRg1 (ref_cons ref_var ref_nil)) (ref_bName (by decide)) ref_yes (ref_call .nil (ref_cons ref_var (ref_cons ref_var ref_nil))))) ref_gName)
      (ref_seq (ref_ifS (ref_test (ref_op rr_eq ref_var ref_int)) (ref_ret (ref_cb rr_tuple (ref_cons (ref_F (ref_lc (ref_iRg1 (ref_cons ref_var ref_nil)) (ref_bName (by decide)) ref_yes (ref_call .nil (ref_cons ref_var (ref_cons ref_var ref_nil))))) ref_nil))) ref_next)
      (ref_seq (ref_asgR (ref_lc (ref_iRg1 (ref_cons ref_var ref_nil)) (ref_bName (by decide)) ref_yes (ref_sub ref_var (ref_op rr_mod ref_var ref_var))))
      (ref_seq (ref_ifS (ref_and (ref_test (ref_op rr_IB ref_var ref_int)) (ref_test (ref_op rr_IB ref_var ref_int))) (ref_setI (ref_call .nil (ref_cons ref_var (ref_cons ref_var ref_nil))) (ref_un rr_neg ref_int)) ref_next)
      (ref_seq (ref_ifS (ref_and (ref_test (ref_op rr_eq ref_var ref_int)) (ref_test (ref_op rr_IB ref_var ref_int))) (ref_setI (ref_call .nil (ref_cons ref_var (ref_cons ref_var ref_nil))) ref_int) ref_next)
      (ref_ret (ref_cb rr_tuple (ref_cons ref_var ref_nil)))))))))) (by decide) h⟩
abbrev s_law_winds : Stmt := topS 27
theorem sc_law_winds : FnScope ["_law_word_here", "_law_place", "_law_at"] ["_law_word_here", "_law_place"] (defScope s_law_winds) := ⟨rfl, rfl, rfl, by decide +kernel, rfl, by decide +kernel, by decide +kernel⟩
theorem ok_law_winds {P : Program} {w : World} {K : PySem.W.Frag} {mg : Str → Option Value} {base : Heap} {f : Addr} {fd : FuncData} (F : FnP K "_law_winds" s_law_winds f fd) (B : Bi mg) :
    FnG P w K mg base CX0 1 f fd ["_law_word_here", "_law_place"] (spV K F_law_winds) := by
  refine okGN F sc_law_winds (fun vs H Q E h => spV_len h) (fun cdv A outer s H vs Q E hg hr h => ?_)
  exact ⟨_, (pss_one (ps_ret (pe_lc (own := [("_law_at", 2)]) (g := (gName 2)) rfl sc_law_winds.nd (pi_range2 (by rfl) B.range (pa_cons pe_int (pa_cons (pv 1) pa_nil))) (blkOk_by (own := [("_law_at", 2)]) (N := ["_law_word_here", "_law_place", "_law_at"]) (sc := defScope s_law_winds) (by decide +kernel)) (fun _ _ _ _ _ => (pg_name (i := 2) sc_law_winds.nd rfl (Or.inl rfl))) (fun _ _ _ _ _ => (pts_one (pt_cmpR (op_eqK (K := K) rfl (hu64_of hr)) (pe_orE (pe_ix ix_any (pv 0) (pe_op op_sub (pv 2) pe_int) (fun _ _ => rfl)) (pe_dget (hu_of hr) (pv 0) (pe_op op_sub (pv 2) pe_int) (fun _ _ => rfl))) (pe_orE (pe_ix ix_any (pv 0) (pe_op op_sub (pv 1) pe_int) (fun _ _ => rfl)) (pe_dget (hu_of hr) (pv 0) (pe_op op_sub (pv 1) pe_int) (fun _ _ => rfl))) (nomark _)))) (fun _ _ _ _ _ => (pv 2))))), body_ok ((ref_ret (ref_F (ref_lc (ref_iRg2 (ref_cons ref_int (ref_cons ref_var ref_nil))) (ref_bName (by decide)) (ref_test (ref_op rr_eq (ref_sub ref_var (ref_op rr_I ref_var ref_int)) (ref_sub ref_var (ref_op rr_I ref_var ref_int)))) ref_var)))) (by decide) h⟩
abbrev s_law_behind : Stmt := topS 28
theorem sc_law_behind : FnScope ["_law_word_here", "_law_spots", "_law_name", "_law_found", "_law_spot", "_law_at"] ["_law_word_here", "_law_spots", "_law_name"] (defScope s_law_behind) := ⟨rfl, rfl, rfl, by decide +kernel, rfl, by decide +kernel, by decide +kernel⟩
noncomputable def m_law_behind : MS := (sSeq (sAsgR 3 (fDK false))
  (sSeq (sForD (iAny (eV 1)) (setD 4) (sForD (iAny (eOp fAdd (eCall F_law_winds [] (aCons (eV 0) (aCons (eV 4) aNil))) (eF (fLst (aCons (eV 4) aNil))))) (setD 5) (sIf (mAnd (tOfE (eOp fLtA (eV 5) (eCB fLenB (aCons (eV 0) aNil)))) (tOfE (eOp fEqS (eOp fSubs (eV 0) (eV 5)) (eV 2)))) (sSetI 3 (eC (.bool true)) (eOp fAdd (eV 5) (eC (.int 1)))) sNext)))
  (sRet (eF (fSortDK (aCons (eV 3) aNil))))))
noncomputable def F_law_behind : FV := mDef 3 6 m_law_behind
theorem ok_law_behind {P : Program} {w : World} {K : PySem.W.Frag} {mg : Str → Option Value} {base : Heap} {f : Addr} {fd : FuncData} (F : FnP K "_law_behind" s_law_behind f fd) (B : Bi mg) (c_law_winds : ClG P w K mg base 1 "_law_winds" ["_law_word_here", "_law_place"] (spV K F_law_winds)) :
    FnG P w K mg base CX0 2 f fd ["_law_word_here", "_law_spots", "_law_name"] (spV K F_law_behind) := by
  refine okGN F sc_law_behind (fun vs H Q E h => spV_len h) (fun cdv A outer s H vs Q E hg hr h => ?_)
  exact ⟨_, (pss_cons (ps_set (i := 3) sc_law_behind.nd rfl (Or.inl rfl) pe_dnewK)
      (pss_cons (ps_for PassesOwn.never rfl (pi_any (K := K) rfl (pv 1)) (pg_name (i := 4) sc_law_behind.nd rfl (Or.inl rfl)) (pss_one (ps_for PassesOwn.never rfl (pi_any (K := K) rfl (pe_op op_addA (pe_clG c_law_winds hg hr (by decide) (by rfl) (pa_cons (pv 0) (pa_cons (pv 4) pa_nil))) (pe_lst (pa_cons (pv 4) pa_nil)))) (pg_name (i := 5) sc_law_behind.nd rfl (Or.inl rfl)) (pss_one (ps_if ((pw_and (pt_cmpR (op_ltA (K := K) rfl (hu70_of hr)) (pv 5) (pe_callB len_all (by rfl) B.len (by decide +kernel) (pa_cons (pv 0) pa_nil)) (nomark _)) (pw_and1 (pt_cmpR (op_eqK (K := K) rfl (hu64_of hr)) (pe_orE (pe_ix ix_any (pv 0) (pv 5) (fun _ _ => rfl)) (pe_dget (hu_of hr) (pv 0) (pv 5) (fun _ _ => rfl))) (pv 2) (nomark _))))).pt (pss_one (ps_orS (ps_asg pe_bl (pg_sub (pv 3) (pe_op op_addA (pv 5) pe_int) set_list)) (ps_dput (hu_of hr) (pv 3) (pe_op op_addA (pv 5) pe_int) pe_bl (by rfl)))) pss_nil)))))
      (pss_one (ps_ret (pe_callB (cr_sortDK rfl (hu70_of hr)) (by rfl) B.sorted (by decide +kernel) (pa_cons (pv 3) pa_nil)))))), body_ok ((ref_seq (ref_asgR ref_fDK)
      (ref_seq (ref_for (ref_iAny ref_var) ref_gName (ref_for (ref_iAny (ref_op rr_add (ref_call .nil (ref_cons ref_var (ref_cons ref_var ref_nil))) (ref_F (ref_fLst (ref_cons ref_var ref_nil))))) ref_gName (ref_ifS (ref_and (ref_test (ref_op rr_ltA ref_var (ref_cb rr_lenB (ref_cons ref_var ref_nil)))) (ref_test (ref_op rr_eq (ref_sub ref_var ref_var) ref_var))) (ref_setI ref_bl (ref_op rr_add ref_var ref_int)) ref_next)))
      (ref_ret (ref_F (ref_fSortDK (ref_cons ref_var ref_nil))))))) (by decide) h⟩
abbrev s_law_leveled : Stmt := topS 29
theorem sc_law_leveled : FnScope ["_law_word_here", "_law_names_here", "_law_most", "_law_found", "_law_size", "_law_longer", "_law_row", "_law_spots", "_law_name"] ["_law_word_here", "_law_names_here", "_law_most"] (defScope s_law_leveled) := ⟨rfl, rfl, rfl, by decide +kernel, rfl, by decide +kernel, by decide +kernel⟩
noncomputable def m_law_leveled : MS := (sSeq (sAsgR 3 (fLst (aCons (eF (fLst (aCons (eTup (aCons (eTup aNil) (aCons (eF (fLst (aCons (eC (.int 0)) aNil))) aNil))) aNil))) aNil)))
  (sSeq (sForD (iRg1 (aCons (eV 2) aNil)) (setD 4) (sSeq (sAsgR 5 (fLst aNil))
  (sSeq (sForD (iAny (eOp fSubs (eV 3) (eUn fNeg (eC (.int 1))))) (gTupD 2 (gsCons (setD 6) (gsCons (setD 7) gsNil))) (sExtend 5 (aCons (eF (fLc (cmI (iAny (eV 1)) [8] (setD 8) tYesM (mLc (eTup (aCons (eOp fAdd (eV 6) (eTup (aCons (eV 8) aNil))) (aCons (eCall F_law_behind [] (aCons (eV 0) (aCons (eV 7) (aCons (eV 8) aNil)))) aNil))))))) aNil)))
  (sFrz 5 (sAppend 3 (aCons (eV 5) aNil))))))
  (sRet (eV 3))))
noncomputable def F_law_leveled : FV := mDef 3 9 m_law_leveled
theorem ok_law_leveled {P : Program} {w : World} {K : PySem.W.Frag} {mg : Str → Option Value} {base : Heap} {f : Addr} {fd : FuncData} (F : FnP K "_law_leveled" s_law_leveled f fd) (B : Bi mg) (c_law_behind : ClG P w K mg base 2 "_law_behind" ["_law_word_here", "_law_spots", "_law_name"] (spV K F_law_behind)) :
    FnG P w K mg base CX0 3 f fd ["_law_word_here", "_law_names_here", "_law_most"] (spV K F_law_leveled) := by
  refine okGN F sc_law_leveled (fun vs H Q E h => spV_len h) (fun cdv A outer s H vs Q E hg hr h => ?_)
  exact ⟨_, (pss_cons (ps_set (i := 3) sc_law_leveled.nd rfl (Or.inl rfl) (pe_lst (pa_cons (pe_lst (pa_cons (pe_tup (pa_cons (pe_tup pa_nil) (pa_cons (pe_lst (pa_cons pe_int pa_nil)) pa_nil))) pa_nil)) pa_nil)))
      (pss_cons (ps_for PassesOwn.never rfl (pi_range1 (by rfl) B.range (pa_cons (pv 2) pa_nil)) (pg_name (i := 4) sc_law_leveled.nd rfl (Or.inl rfl)) (pss_cons (ps_set (i := 5) sc_law_leveled.nd rfl (Or.inl rfl) (pe_lst pa_nil))
      (pss_cons (ps_for PassesOwn.never rfl (pi_any (K := K) rfl (pe_orE (pe_ix ix_any (pv 3) (pe_un un_neg pe_int) (fun _ _ => rfl)) (pe_dget (hu_of hr) (pv 3) (pe_un un_neg pe_int) (fun _ _ => rfl)))) (pg_tup rfl (pgs_cons (pg_name (i := 6) sc_law_leveled.nd rfl (Or.inr rfl)) (pgs_cons (pg_name (i := 7) sc_law_leveled.nd rfl (Or.inr rfl)) pgs_nil))) (pss_one (ps_expr (pe_bm PySem.F.plainAttrs_list PySem.F.slot_list_extend PySem.F.type_list_extend mt_extend (pv 5) (pa_cons (pe_lc (own := [("_law_name", 8)]) (g := (gName 8)) (tt := tYes) rfl sc_law_leveled.nd (pi_any (K := K) rfl (pv 1)) (blkOk_by (own := [("_law_name", 8)]) (N := ["_law_word_here", "_law_names_here", "_law_most", "_law_found", "_law_size", "_law_longer", "_law_row", "_law_spots", "_law_name"]) (sc := defScope s_law_leveled) (by decide +kernel)) (fun _ _ _ _ _ => (pg_name (i := 8) sc_law_leveled.nd rfl (Or.inl rfl))) (fun _ _ _ _ _ => pts_nil) (fun _ _ _ _ _ => (pe_tup (pa_cons (pe_op op_addA (pv 6) (pe_tup (pa_cons (pv 8) pa_nil))) (pa_cons (pe_clG c_law_behind hg hr (by decide) (by rfl) (pa_cons (pv 0) (pa_cons (pv 7) (pa_cons (pv 8) pa_nil)))) pa_nil))))) pa_nil)))))
      (pss_one (ps_expr (pe_bm PySem.F.plainAttrs_list PySem.F.slot_list_append PySem.F.type_list_append mt_append (pv 3) (pa_cons (pv 5) pa_nil)))))))
      (pss_one (ps_ret (pv 3))))), body_ok ((ref_seq (ref_asgR (ref_fLst (ref_cons (ref_F (ref_fLst (ref_cons (ref_tup (ref_cons (ref_tup ref_nil) (ref_cons (ref_F (ref_fLst (ref_cons ref_int ref_nil))) ref_nil))) ref_nil))) ref_nil)))
      (ref_seq (ref_for (ref_iRg1 (ref_cons ref_var ref_nil)) ref_gName (ref_seq (ref_asgR (ref_fLst ref_nil))
      (ref_seq (ref_for (ref_iAny (ref_sub ref_var (ref_un rr_neg ref_int))) (ref_gTup (ref_gCons ref_gName (ref_gCons ref_gName ref_gNil))) (ref_extend (ref_cons (ref_F (ref_lc (ref_iAny ref_var) (ref_bName (by decide)) ref_yes (ref_tup (ref_cons (ref_op rr_add ref_var (ref_tup (ref_cons ref_var ref_nil))) (ref_cons (ref_call .nil (ref_cons ref_var (ref_cons ref_var (ref_cons ref_var ref_nil)))) ref_nil))))) ref_nil)))
      (ref_frz (i := 5) (ref_append (ref_cons ref_var ref_nil))))))
      (ref_ret ref_var)))) (by decide) h⟩
end K04
namespace Vm
open PySem PySem.Spec PyProof.Rows L2 Gk NdefX LamX
theorem cf_look : ∀ {names : List (Str × NameKind)} {n : Nat} {acc : List (Str × Addr)} {x : Str} {c : Addr}, (cellsFrom n names acc).lookup x = some c → acc.lookup x = some c ∨ (n ≤ c ∧ (x, NameKind.cell) ∈ names)
  | [], n, acc, x, c, h => .inl h
  | (m, k) :: r, n, acc, x, c, h => by
    unfold cellsFrom at h
    split at h
    · rename_i hk
      have hk : k = .cell := by simpa using hk
      rcases cf_look h with h | ⟨h1, h2⟩
      · rw [List.lookup_cons] at h
        split at h
        · rename_i e
          cases h
          have e : x = m := by simpa using e
          exact .inr ⟨Nat.le_refl _, by rw [e, hk]; exact List.mem_cons_self ..⟩
        · exact .inl h
      · exact .inr ⟨by omega, List.mem_cons_of_mem _ h2⟩
    · rcases cf_look h with h | ⟨h1, h2⟩
      · exact .inl h
      · exact .inr ⟨h1, List.mem_cons_of_mem _ h2⟩
theorem cf_inj : ∀ {names : List (Str × NameKind)} {n : Nat} {acc : List (Str × Addr)} {x y : Str} {c : Addr}, (∀ x c, acc.lookup x = some c → c < n) → (∀ x y c, acc.lookup x = some c → acc.lookup y = some c → x = y) →
    (cellsFrom n names acc).lookup x = some c → (cellsFrom n names acc).lookup y = some c → x = y
  | [], n, acc, x, y, c, _, hi, h1, h2 => hi _ _ _ h1 h2
  | (m, k) :: r, n, acc, x, y, c, hl, hi, h1, h2 => by
    unfold cellsFrom at h1 h2
    split at h1
    · rename_i hk
      rw [if_pos hk] at h2
      refine cf_inj (fun z d h => ?_) (fun z u d a b => ?_) h1 h2
      · rw [List.lookup_cons] at h
        split at h
        · cases h; exact Nat.lt_succ_self _
        · exact Nat.lt_succ_of_lt (hl _ _ h)
      · rw [List.lookup_cons] at a b
        split at a
        · rename_i e1
          cases a
          split at b
          · rename_i e2
            rw [show z = m by simpa using e1, show u = m by simpa using e2]
          · exact absurd (hl _ _ b) (Nat.lt_irrefl _)
        · split at b
          · cases b
            exact absurd (hl _ _ a) (Nat.lt_irrefl _)
          · exact hi _ _ _ a b
    · rename_i hk
      rw [if_neg hk] at h2
      exact cf_inj hl hi h1 h2
theorem cf_keep : ∀ {names : List (Str × NameKind)} {n : Nat} {acc : List (Str × Addr)} {x : Str}, (x, NameKind.cell) ∉ names → (cellsFrom n names acc).lookup x = acc.lookup x
  | [], _, _, _, _ => rfl
  | (m, k) :: r, n, acc, x, h => by
    unfold cellsFrom
    split
    · rename_i hk
      have hk : k = .cell := by simpa using hk
      rw [cf_keep fun z => h (List.mem_cons_of_mem _ z), List.lookup_cons]
      have : (x == m) = false := beq_eq_false_iff_ne.mpr fun e => h (by rw [e, hk]; exact List.mem_cons_self ..)
      rw [this]
    · exact cf_keep fun z => h (List.mem_cons_of_mem _ z)
theorem cf_own : ∀ {names : List (Str × NameKind)} {n : Nat} {acc : List (Str × Addr)} {x : Str} {c : Addr}, (x, NameKind.cell) ∈ names → (cellsFrom n names acc).lookup x = some c → n ≤ c
  | (m, k) :: r, n, acc, x, c, h, e => by
    unfold cellsFrom at e
    by_cases q : (x, NameKind.cell) ∈ r
    · split at e
      · have := cf_own q e
        omega
      · exact cf_own q e
    · rcases List.mem_cons.mp h with z | z
      · cases z
        rw [if_pos (show (NameKind.cell == NameKind.cell) = true from rfl), cf_keep q, List.lookup_cons, beq_self_eq_true] at e
        cases e
        exact Nat.le_refl _
      · exact (q z).elim
theorem cf_has {names : List (Str × NameKind)} {n : Nat} {acc : List (Str × Addr)} {x : Str} (h : (x, NameKind.cell) ∈ names) : ∃ c, (cellsFrom n names acc).lookup x = some c := by
  obtain ⟨c, m⟩ := cells_has (n := n) (acc := acc) h
  exact mem_lookup m
theorem cf_cell : ∀ {names : List (Str × NameKind)} {h : Heap} {acc : List (Str × Addr)} {x : Str} {c : Addr}, (cellsFrom h.objs.size names acc).lookup x = some c → acc.lookup x = some c ∨ (pushCells h names).IsCell c none
  | [], _, _, _, _, e => .inl e
  | (m, k) :: r, h, acc, x, c, e => by
    unfold cellsFrom at e
    unfold pushCells
    split at e
    · rename_i hk
      rw [if_pos hk]
      rw [← Heap.size_push h { cls := .type "cell", data := .cell none }] at e
      rcases cf_cell e with e | e
      · rw [List.lookup_cons] at e
        split at e
        · cases e
          exact .inr ⟨_, pushCells_keeps r _ _ _ (Heap.get?_push_size _ rfl), rfl⟩
        · exact .inl e
      · exact .inr e
    · rename_i hk
      rw [if_neg hk]
      exact cf_cell e
abbrev envY (F : NF) (f L : Addr) : Env := PySem.W.envX F.qual F.scope L f (.ref F.c) (cellsFrom (L + 1) F.scope.names F.cl)
theorem newEnv_fn {M : Model} {A : Around} {E : Value → Shared → Prop} {s : Shared} {F : NF} {f : Addr} {binds : List (Str × Value)} {Q : Env → Shared → Prop} (hk : F.scope.kind = .function) (hl : ∀ x ∈ binds, F.scope.names.lookup x.1 = some .local)
    (q : ∀ g, g.Ns s.heap.objs.size (fun x => binds.reverse.lookup x) → (∀ b o, b ≠ s.heap.objs.size → (pushCells (s.heap.push { cls := .type "frame", data := .dict #[] }) F.scope.names).get? b = some o → g.get? b = some o) →
      Q (envY F f s.heap.objs.size) { s with heap := g, toks := s.toks + binds.length }) :
    wpAny M A (newFunctionEnv F.scope mainGlobals F.cl binds (F.qual ++ ".<locals>.") (some f) (.ref F.c) none builtinsNs) Q E s := by
  simp only [newFunctionEnv, Option.isSome_none, Bool.false_eq_true, if_false]
  refine wpAny_bind (wpAny_alloc ?_)
  refine wpAny_bind (wpAny_layCells _ (fun name kind cells => by cases hc : kind == NameKind.cell <;> simp [hc]) _ _ _ _ ?_)
  have sz : (s.heap.push { cls := .type "frame", data := .dict #[] }).objs.size = s.heap.objs.size + 1 := Heap.size_push ..
  rw [show ({ s with heap := s.heap.push { cls := .type "frame", data := .dict #[] } } : Shared).heap.objs.size = s.heap.objs.size + 1 from sz]
  have n0 : (pushCells (s.heap.push { cls := .type "frame", data := .dict #[] }) F.scope.names).Ns s.heap.objs.size (fun x => ([] : List (Str × Value)).reverse.lookup x) := (Heap.Ns.new s.heap (.type "frame")).keeps (pushCells_keeps _ _)
  refine wpAny_bind ?_
  refine wpAny_forIn_list _ (fun rest _ s' => ∃ done g, binds = done ++ rest ∧ s' = { s with heap := g, toks := s.toks + done.length } ∧ g.Ns s.heap.objs.size (fun x => done.reverse.lookup x) ∧
    (∀ b o, b ≠ s.heap.objs.size → (pushCells (s.heap.push { cls := .type "frame", data := .dict #[] }) F.scope.names).get? b = some o → g.get? b = some o)) _ ?_ ?_ binds _ ⟨[], _, rfl, rfl, n0, fun _ _ _ e => e⟩
  · rintro ⟨name, v⟩ rest _ s' ⟨done, g, hb, rfl, hns, hkp⟩
    have k1 : Env.kindOf (envY F f s.heap.objs.size) name = some .local := hl (name, v) (by rw [hb]; simp)
    have k2 : ((envY F f s.heap.objs.size).scope.kind == .class || ((envY F f s.heap.objs.size).scope.kind == .module && (envY F f s.heap.objs.size).locals != (envY F f s.heap.objs.size).globals)) = false := by
      show (F.scope.kind == .class || (F.scope.kind == .module && _)) = false
      rw [hk]; rfl
    refine wpAny_bind ?_
    show wpAny M A (storeName (envY F f s.heap.objs.size) name v) _ E _
    rw [storeName_local k1 k2]
    refine (wpAny_nsSet hns fun g' hns' sb => wpAny_pure ⟨done ++ [(name, v)], g', by simp [hb], ?_, ?_, fun b o ne e => sb.extBut b o ne (hkp b o ne e)⟩)
    · simp [Nat.add_assoc]
    · rw [lookup_reverse_snoc]; exact hns'
  · rintro _ s' ⟨done, g, hb, rfl, hns, hkp⟩
    rw [List.append_nil] at hb
    subst hb
    exact wpAny_pure (q g hns hkp)
/-- its names: the parameters, the captured ones, its own -/
structure NSc (N ps fr : List Str) (sc : Scope) : Prop where
  kind : sc.kind = .function
  co : sc.isCoroutine = false
  gen : sc.isGenerator = false
  nd : N.Nodup
  pre : N.take (ps.length + fr.length) = ps ++ fr
  par : ∀ x ∈ ps, sc.names.lookup x = some .local
  free : ∀ y ∈ sc.names, y.2 = .free → y.1 ∈ fr
  frk : ∀ x ∈ fr, sc.names.lookup x = some .free
  frc : ∀ x ∈ fr, (x, NameKind.cell) ∉ sc.names
def nscY (N ps fr : List Str) (sc : Scope) : Bool :=
  decide (sc.kind = .function) && (!sc.isCoroutine && (!sc.isGenerator && (decide N.Nodup && (decide (N.take (ps.length + fr.length) = ps ++ fr) && (ps.all (fun x => decide (sc.names.lookup x = some .local)) && (sc.names.all (fun y => !decide (y.2 = .free) || decide (y.1 ∈ fr)) && (fr.all (fun x => decide (sc.names.lookup x = some .free)) && fr.all (fun x => decide ((x, NameKind.cell) ∉ sc.names)))))))))
theorem nsc_by {N ps fr : List Str} {sc : Scope} (h : nscY N ps fr sc = true) : NSc N ps fr sc := by
  unfold nscY at h
  simp only [Bool.and_eq_true, Bool.not_eq_true', decide_eq_true_eq, List.all_eq_true, Bool.or_eq_true, decide_eq_false_iff_not] at h
  obtain ⟨h1, h2, h3, h4, h5, h6, h7, h8, h9⟩ := h
  exact ⟨h1, h2, h3, h4, h5, h6, fun y m e => (h7 y m).elim (fun z => (z e).elim) id, h8, h9⟩
def ncY (CX : CXT) (P : Program) (w : World) (K : PySem.W.Frag) (mg : Str → Option Value) (base : Heap) (N : List Str) (F : NF) (f : Addr) (A : Around) (outer : List Env) (s : Shared) (H : Hp) (E : XK) : Cx where
  prog := P
  w := w
  K := K
  mg := mg
  base := base
  A := A.deeper (envY F f s.heap.objs.size)
  N := N
  s_0 := s
  H_0 := H
  env := envY F f s.heap.objs.size
  outer := outer
  stack := envY F f s.heap.objs.size :: outer
  ex := []
  calm := true
  fn := fun y => decide ((y, NameKind.cell) ∈ F.scope.names)
  pn := []
  xe := fun e s' => wpAny (model P w) (A.deeper (envY F f s.heap.objs.size)) (leaving (envY F f s.heap.objs.size) e) (fun _ s'' => CX outer H s E e s'') (fun e' s'' => CX outer H s E e' s'') s'
section
variable {CX : CXT} {P : Program} {w : World} {K : PySem.W.Frag} {mg : Str → Option Value} {base : Heap} {N ps fr : List Str} {F : NF} {f : Addr} {A : Around} {outer : List Env} {s : Shared} {H : Hp} {E : XK} {us : List Value} {vs : List V} {ws : List (Option V)}
theorem inv_startY {g : Heap} {tk : Nat} (S : NSc N ps fr F.scope) (hd : A.handled = none) (e0 : Env0 P w K mg base A outer s H) (hl : vs.length = ps.length) (r : Vals vs us) (C : CellsAt F.cl fr ws s.heap H) (hns : g.Ns s.heap.objs.size fun y => (ps.zip us).reverse.lookup y)
    (kp : ∀ b o, b ≠ s.heap.objs.size → (pushCells (s.heap.push { cls := .type "frame", data := .dict #[] }) F.scope.names).get? b = some o → g.get? b = some o) :
    Inv (ncY CX P w K mg base N F f A outer s H E) [] (startF N vs ws) H { s with heap := g, toks := tk } := by
  have pl : ps.length + fr.length ≤ N.length := by
    have q := congrArg List.length S.pre
    rw [List.length_take, List.length_append] at q
    omega
  have clen := C.len
  have kp0 : ∀ b o, s.heap.get? b = some o → g.get? b = some o := fun b o e => kp b o (Nat.ne_of_lt (Heap.lt_size e)) (pushCells_keeps _ _ _ _ (Heap.get?_push_of_some _ e))
  have none_ex : ∀ b : Addr, b ∉ (ncY CX P w K mg base N F f A outer s H E).ex := fun b z => absurd (show b ∈ ([] : List Addr) from z) (by simp)
  have cl_lt : ∀ x c, F.cl.lookup x = some c → c < s.heap.objs.size := fun x c e => by
    obtain ⟨_, v, o, ho, _⟩ := C.all x c e
    exact Heap.lt_size ho
  have sz : (s.heap.push { cls := .type "frame", data := .dict #[] }).objs.size = s.heap.objs.size + 1 := Heap.size_push ..
  have own : ∀ {x c}, (cellsFrom (s.heap.objs.size + 1) F.scope.names F.cl).lookup x = some c → F.cl.lookup x = some c ∨ g.IsCell c none := fun {x c} e => by
    rw [← sz] at e
    rcases cf_cell e with z | ⟨o, ho, hd⟩
    · exact .inl z
    · rcases cf_look e with z | ⟨z, _⟩
      · exact .inl z
      · rw [sz] at z
        exact .inr ⟨o, kp _ _ (by omega) ho, hd⟩
  have cellK : ∀ {c : Addr} {v : Option Value}, s.heap.IsCell c v → g.IsCell c v := fun ⟨o, ho, hd⟩ => ⟨o, kp0 _ _ ho, hd⟩
  refine ⟨⟨e0.mod, S.kind, rfl, rfl, Nat.le_refl _, fun x y c h1 h2 => cf_inj (fun x c e => Nat.lt_succ_of_lt (cl_lt x c e)) (fun x y c a b => C.inj x y c a b) h1 h2, fun y hy => ?_, fun y c hy h => ?_, fun _ => hd, Around.frames_deeper e0.frames, .inr ⟨rfl, rfl⟩, fun b z => absurd z (none_ex b), e0.bs, e0.bsz, fun b _ _ => none_ex b,
      fun b z => absurd z (none_ex b), e0.funs, e0.frf⟩,
    rfl, e0.bare, Un.kept kp0, ⟨_, hns, fun i y v e1 e2 e3 => ?_⟩, fun y c e => ?_, e0.hok.fresh (Nat.le_refl _), fun y c e => ?_, fun q hq => absurd (show q ∈ ([] : List (Addr × Obj)) ++ [] from hq) (by simp), e0.hok.kept kp0, ?_⟩
  · have hy : F.scope.names.lookup y = some .cell ∨ F.scope.names.lookup y = some .free := hy
    rcases hy with hy | hy
    · exact cf_has (PySem.mem_of_lookup hy)
    · obtain ⟨i, hi⟩ := List.mem_iff_getElem?.mp (S.free _ (PySem.mem_of_lookup hy) rfl)
      obtain ⟨c, hc, _⟩ := C.has i y hi
      exact ⟨c, (cf_keep (S.frc y (List.mem_of_getElem? hi))).trans hc⟩
  · have h : (cellsFrom (s.heap.objs.size + 1) F.scope.names F.cl).lookup y = some c := h
    have z := cf_own (of_decide_eq_true hy) h
    show s.heap.objs.size ≤ c
    omega
  · have e1 : N[i]? = some y := e1
    unfold startF at e2
    by_cases h1 : i < ps.length
    · have hq : (ps ++ fr)[i]? = some y := by
        rw [← S.pre, List.getElem?_take_of_lt (by omega)]
        exact e1
      rw [List.getElem?_append_left h1] at hq
      rw [List.getElem?_append_left (by rw [List.length_map]; omega), List.getElem?_map] at e2
      obtain ⟨v0, ha, rfl⟩ : ∃ v0, vs[i]? = some v0 ∧ v0 = v := by
        cases e : vs[i]? with
        | none => rw [e] at e2; cases e2
        | some a => rw [e] at e2; cases e2; exact ⟨_, rfl, rfl⟩
      obtain ⟨u, hu, rv⟩ := r.get ha
      have ndP : ps.Nodup := by
        have q := S.nd.sublist (List.take_sublist (ps.length + fr.length) N)
        rw [S.pre] at q
        exact (List.nodup_append.mp q).1
      exact ⟨u, rv, .inl ⟨S.par y (List.mem_of_getElem? hq), zip_look ndP hq hu⟩⟩
    · rw [List.getElem?_append_right (by rw [List.length_map]; omega), List.length_map] at e2
      by_cases h2 : i < ps.length + fr.length
      · have hq : (ps ++ fr)[i]? = some y := by
          rw [← S.pre, List.getElem?_take_of_lt (by omega)]
          exact e1
        rw [List.getElem?_append_right (by omega)] at hq
        rw [List.getElem?_append_left (by omega), hl] at e2
        obtain ⟨c, hc, hv⟩ := C.has (i - ps.length) y hq
        obtain ⟨u, ru, hu⟩ := hv v e2
        exact ⟨u, ru, .inr ⟨.inr (S.frk y (List.mem_of_getElem? hq)), c, (cf_keep (S.frc y (List.mem_of_getElem? hq))).trans hc, cellK hu⟩⟩
      · rw [List.getElem?_append_right (by omega), List.getElem?_replicate] at e2
        split at e2 <;> cases e2
  · rcases own e with z | z
    · obtain ⟨v, z⟩ := (C.all y c z).2
      exact ⟨v, cellK z⟩
    · exact ⟨_, z⟩
  · have e : (cellsFrom (s.heap.objs.size + 1) F.scope.names F.cl).lookup y = some c := e
    rcases cf_look e with z | ⟨z, _⟩
    · exact (C.all y c z).1
    · exact e0.hok.fresh (by omega)
  · unfold startF
    show _ = N.length
    rw [List.length_append, List.length_append, List.length_map, List.length_replicate]
    omega
end
end Vm
namespace Vm
open PySem PySem.Spec PyProof.Rows L2 Gk NdefX LamX
theorem rd_ok {P : Program} {w : World} {H : Hp} {h : Heap} {a : Addr} {u : HO} (hok : HOk P w H h) (r : Rd H a u) : ObjOk P w H h a u := by
  rcases r with e | ⟨o, e⟩
  · exact hok a u e
  · exact (hok a _ e).2
end Vm
namespace Vm
open PySem PySem.Spec PyProof.Rows L2 Gk NdefX
/-- what the written part says of the class and its __init__ -/
structure SupK (P : Program) (K : PySem.W.Frag) (mg : Str → Option Value) (f cda C : Addr) (slf : Str) : Prop where
  fn : ∃ (oc : Value) (od : Option Addr) (fd : FuncData) (osl : Array (Option Value)) (ar : Arg), K.lookup f = some ⟨oc, od, .func fd, osl⟩ ∧ (fd.params.posonlyargs ++ fd.params.args).head? = some ar ∧ ar.arg = slf
  code : ∃ (cl : Value) (cd : Option Addr) (vs : Array Value) (cs : Array (Option Value)) (file : Str) (tf : Tok), K.lookup cda = some ⟨cl, cd, .fields vs, cs⟩ ∧ vs[2]? = some (.str file tf) ∧ ((P.main.file : Str) == file) = true
  top : (P.main.scope.names.lookup ("super" : Str)).isSome = false
  mgs : mg "super" = none
  opq : PySem.W.nsIn K cStatics "thirdparty.any" = some none
  sup : PySem.W.ks_superIn K C C "__init__" = some (some (.builtin "ValueError.__init__"))
  sve : PySem.W.subIn K (.ref C) (.type "ValueError") = some true
  slf : PySem.W.mroIn K C (.ref C) = some true
theorem boot_super : bootBuiltins "super" = some (.type "super") := by decide +kernel
section
variable {prog : Program} {w : World} {A : Around} {E : Value → Shared → Prop} {h : Heap} {g : Array GenState} {d : Drawn} {t : Nat} {os : OsState}
variable {nm q : Str} {C N : Addr} {bs bm : List Value} {hd : Bool} {sn : List Str} {sub : List Value} {ab : Bool} {col : Option Bool} {dd : Option Addr} {k0 k1 k2 k3 k5 : Option Value}
/-- the bound __init__ is called: the object's args are laid anew -/
theorem mw_run {u e t0 : Addr} {rest : List Value} {Q : Value → Shared → Prop} (cC : h.get? C = some (excClassObj nm q C N bs bm hd sn sub ab col dd k0 k1 k2 k3 k5 "ValueError.__new__"))
    (ee : h.get? e = some (PySem.W.excRec (.ref C) t0 none .none .none (.bool false))) (eu : h.get? u = some (PySem.W.kxs_mw "ValueError.__init__" e)) (few : rest.length ≤ sizeLine)
    (fin : ∀ h' t1, (∀ b o, b ≠ e → h.get? b = some o → h'.get? b = some o) → h'.get? e = some (PySem.W.excRec (.ref C) t1 none .none .none (.bool false)) → Q .none ⟨h', g, d, t, os⟩) :
    wpAny (model prog w) A (call (.ref u) rest) Q E ⟨h, g, d, t, os⟩ := by
  have FB := PySem.F.excBase_ValueError
  have isW : (Value.type "method-wrapper" == Value.type "method" || Value.type "method-wrapper" == Value.type "builtin_function_or_method" || Value.type "method-wrapper" == Value.type "method-wrapper") = true := by decide
  refine wpAny_call (codeAny_of_tree ?_)
  show wpAny _ A.in1 (callAny (.ref u) { pos := rest, kw := [] }) _ _ _
  simp only [callAny]
  refine wpAny_bind (wpAny_load eu ?_)
  simp only [PySem.W.kxs_mw, isW, if_true]
  refine PySem.W.KFB.if_so (by decide) (wpAny_bind (PySem.W.check_bound_init FB.toExcCallFacts cC ee rfl ?_))
  refine wpAny_bind (wpAny_pure (wpAny_pure ⟨plainId_quiet FB.init.plain _, codeAny_builtin FB.initEntry ?_⟩))
  exact PySem.W.exc_init_tree ee few fun h' k ex _ => fin h' _ k ex
end
section
variable {X : Cx} {pins : List (Addr × Obj)} {σ : L2.St} {H : Hp} {s : Shared} {a C f cda : Addr} {i j n : Nat} {body : List Stmt} {p0 p1 p2 p3 p4 p5 : Pos} {txt slf : Str} {Q : Flow → Shared → Prop}
/-- super().__init__('..') -/
theorem sup_init (S : SupK X.prog X.K X.mg f cda C slf) (T : OexC X.K C) (I : Inv X pins σ H s) (ea : H a = some (exo a C none)) (hfu : X.env.func = some f) (hco : X.env.code = .ref cda)
    (n0 : X.N[i]? = some slf) (s0 : σ[i]? = some (some (.ref a))) (k0 : X.env.scope.names.lookup slf = some .local) (n1 : X.N[j]? = some ("__class__" : Str)) (s1 : σ[j]? = some (some (.ref C))) (k1 : X.env.scope.names.lookup ("__class__" : Str) = some .free)
    (k2 : X.env.scope.names.lookup ("super" : Str) = some .globalImplicit) (hin : interactive X.env = false)
    {pl : Sem Bool} (he : eval (.Call (.Attribute (.Call (.Name "super" p0) [] [] p1) "__init__" p2) [.Constant (.str txt) n p3] [] p4) X.env = (do
      let ov ← attributeBase (.Call (.Name "super" p0) [] [] p1) "__init__" X.env (eval (.Call (.Name "super" p0) [] [] p1) X.env)
      standAt p2.atName
      let (f, first) ← holding [ov] (getMethod ov "__init__" pl)
      callWith p4 f first (backTo p4 (starEach [.Constant (.str txt) n p3] X.env)) [])) (q : ∀ s', Inv X pins σ H s' → Q .next s') :
    _root_.PySem.wpAt (model X.prog X.w) X.A (.func body X.env) (exec (.Expr (.Call (.Attribute (.Call (.Name "super" p0) [] [] p1) "__init__" p2) [.Constant (.str txt) n p3] [] p4) p5) X.env) Q X.xe s := by
  refine ks_wpAt_Expr_any (ks_wpAt_MethodCall ?_ he) hin
  obtain ⟨oc, od, fd, osl, ar, lf, hd, rfl⟩ := S.fn
  obtain ⟨cl, cd, vs, cs, file, tf, lc, hvs, hfile⟩ := S.code
  obtain ⟨nm, qn, N, bs, bm, sn, sub, ab, col, dd, z0, z1, z2, z3, z5, hC, hbm⟩ := T.cls
  obtain ⟨mb, hb, hbb⟩ := I.ok.mod.blt
  obtain ⟨m, hns, hl⟩ := I.loc
  have KI := I.kIn
  have hcl : PySem.W.clsIn X.K C = some { name := nm, bases := bs, mro := .ref C :: bm, ns := N, qualname := qn, hasDict := true, slotNames := sn, subclasses := sub, abstract := ab, collection := col, hasDel := false } := by unfold PySem.W.clsIn; rw [hC]
  have hfun : X.env.scope.kind = .function := I.ok.kind
  refine ks_wpAt_super_base k2 k1 rfl hfu (KI _ _ lf) rfl hd hco (KI _ _ lc) rfl hvs hfile S.top ?_
  refine PySem.W.ks_loadName_global hfun k2 (Calls.loadGlobal_builtin (by rw [I.ok.glob]; exact I.ok.mod.glob.keeps I.bk) S.mgs (by rw [I.ok.blt]; exact hb.keeps I.bk) ((hbb _ (by decide)).trans boot_super) ⟨rfl, ?_⟩)
  obtain ⟨u1, r1, v1⟩ := hl j _ _ n1 s1 (.inr (.inr k1))
  obtain rfl : u1 = Value.ref C := r1
  obtain ⟨cc, lcc, hcc⟩ : ∃ c, X.env.cells.lookup ("__class__" : Str) = some c ∧ s.heap.IsCell c (some (.ref C)) := by
    rcases v1 with ⟨z, _⟩ | ⟨_, z⟩
    · exact absurd (k1.symm.trans z) (by decide)
    · exact z
  refine wpAny_loadName_free hfun k1 lcc hcc ?_
  obtain ⟨u0, r0, v0⟩ := hl i _ _ n0 s0 (.inl k0)
  obtain rfl : u0 = Value.ref a := r0
  obtain hm : m ar.arg = some (.ref a) := by
    rcases v0 with ⟨_, z⟩ | ⟨z, _⟩
    · exact z
    · rcases z with z | z <;> exact absurd (k0.symm.trans z) (by decide)
  refine wpAny_loadName_local hfun k0 hns hm ?_
  obtain ⟨t1, ho⟩ := exo_at I.hok ea
  obtain ⟨hp, g, dr, tk, os⟩ := s
  refine ks_wpAny_isType_cls (KI _ _ hC) rfl ⟨rfl, ?_⟩
  refine ks_wpAny_call_super (KI _ _ hC) rfl ho rfl (fun c z => nomatch z) (PySem.W.looks_mroIn KI S.slf) fun h1 e1 kp1 => ?_
  have I1 : Inv X pins σ H ⟨h1, g, dr, tk, os⟩ := I.kept (t' := tk) kp1
  have ho1 := kp1 _ _ ho
  have A1 : PySem.W.InstAt h1 a { cls := .ref C, dict := none, data := .fields #[.ref t1, .none, .none, .none, .bool false, .none] } C none := ⟨ho1, rfl, rfl, trivial⟩
  have hsup := S.sup
  unfold PySem.W.ks_superIn at hsup
  rw [hcl] at hsup
  refine PySem.W.kxs_getMethod PySem.W.kxs_ValueError e1 (PySem.W.looks_opaque I1.kIn S.opq) (l₀ := .ref C :: bm) ?_ rfl I1.kIn hsup (A1.type.andThen (PySem.W.looks_subIn I1.kIn S.sve)) (PySem.W.ks_ne I1.kIn A1 hcl) (by decide) ?_
  · exact fun A Q E s k q => wpAny_bind ((PySem.W.looks_clsIn I1.kIn hcl) A _ E s k (wpAny_pure q))
  have kp2 : ∀ b o, h1.get? b = some o → (h1.push (PySem.W.kxs_mw "ValueError.__init__" a)).get? b = some o := fun b o e => Heap.get?_push_of_some _ e
  have I2 : Inv X pins σ H ⟨h1.push (PySem.W.kxs_mw "ValueError.__init__" a), g, dr, tk + 1, os⟩ := I1.kept (t' := tk + 1) kp2
  have mw2 : (h1.push (PySem.W.kxs_mw "ValueError.__init__" a)).get? h1.objs.size = some (PySem.W.kxs_mw "ValueError.__init__" a) := Heap.get?_push_at rfl rfl
  refine PySem.W.kxs_callWith (i := "ValueError.__init__") (x := a) rfl ?_
  refine Calls.evalArgs_plain ?_
  refine Calls.spliced_cons (Calls.Constant_str (k := n) (pos := p3) (Calls.spliced_nil ⟨mw2, ?_⟩))
  have he2 := kp2 _ _ ho1
  refine mw_run (I2.kIn _ _ hC) he2 mw2 (by show 1 ≤ sizeLine; rw [sizeLine_eq]; omega) fun h3 t3 k3 e3 => ?_
  have J := I2.write (t' := tk + 2) (x := a) (e := a) (o := exo a C none) (by rw [ea]; exact True.intro) (.inl rfl) k3 ⟨_, e3⟩ (exo_ok e3)
  have eu : upd H a (exo a C none) = H := by
    funext b
    unfold upd
    split
    · rename_i z
      rw [z, ea]
    · rfl
  rw [eu] at J
  exact q _ J
end
end Vm
namespace Vm
open PySem PySem.Spec PyProof.Rows L2 Gk NdefX
/-- the def of the class at C: its code, its one captured name -/
structure IniK (K : PySem.W.Frag) (F : NF) (f C : Addr) (fd : FuncData) : Prop where
  fn : ∃ (oc dV kV doc pm ct : Value) (od an : Option Addr) (osl : Array (Option Value)), K.lookup f = some ⟨oc, od, .func fd, osl⟩ ∧ fd = PySem.W.fnX F.name F.qual F.params F.body F.scope F.cl dV kV doc pm an (.ref F.c) ct
  cl : ∃ (cc : Addr) (oc : Value) (od : Option Addr) (osl : Array (Option Value)), F.cl = [(("__class__" : Str), cc)] ∧ K.lookup cc = some ⟨oc, od, .cell (some (.ref C)), osl⟩
  cd : PySem.W.codeIn K (.ref F.c) F.qual = true
section
variable {CX : CXT} {P : Program} {w : World} {K : PySem.W.Frag} {mg : Str → Option Value} {base : Heap} {N ps : List Str} {F : NF} {f C : Addr} {fd : FuncData} {sp : Sp} {k : Nat}
theorem ini_cells (T : IniK K F f C fd) {A : Around} {outer : List Env} {s : Shared} {H : Hp} (e0 : Env0 P w K mg base A outer s H) : CellsAt F.cl ["__class__"] [some (V.ref C)] s.heap H := by
  obtain ⟨cc, oc, od, osl, hc, lk⟩ := T.cl
  have kb : base.get? cc = some ⟨oc, od, .cell (some (.ref C)), osl⟩ := e0.mod.kin _ _ lk
  obtain ⟨g1, n1⟩ := e0.bs _ _ kb
  have one : ∀ {y : Str} {c : Addr}, F.cl.lookup y = some c → y = "__class__" ∧ c = cc := fun {y c} e => by
    rw [hc, List.lookup_cons] at e
    split at e
    · rename_i z
      cases e
      exact ⟨by simpa using z, rfl⟩
    · cases e
  refine ⟨rfl, fun y c e => ?_, fun x y c e1 e2 => ?_, fun i y e => ?_⟩
  · obtain ⟨_, rfl⟩ := one e
    exact ⟨n1, _, _, g1, rfl⟩
  · rw [(one e1).1, (one e2).1]
  · cases i with
    | succ i => simp at e
    | zero =>
      simp at e
      subst e
      refine ⟨cc, by rw [hc]; rfl, fun v hv => ?_⟩
      simp at hv
      subst hv
      exact ⟨_, rfl, _, g1, rfl⟩
theorem ini_fn {slf : Str} {ps' : List Str} {rest : List Stmt} {txt : Str} {n : Nat} {p0 p1 p2 p3 p4 p5 : Pos} (T : IniK K F f C fd) (S : NSc N ps ["__class__"] F.scope) (hps : ps = slf :: ps') (Z : SupK P K mg f F.c C slf) (X : OexC K C)
    (hb0 : F.body = .Expr (.Call (.Attribute (.Call (.Name "super" p0) [] [] p1) "__init__" p2) [.Constant (.str txt) n p3] [] p4) p5 :: rest)
    (k2 : F.scope.names.lookup ("super" : Str) = some .globalImplicit) (sw : ∀ L : Addr, interactive (envY F f L) = false)
    {pl : Env → Sem Bool} (he : ∀ env : Env, eval (.Call (.Attribute (.Call (.Name "super" p0) [] [] p1) "__init__" p2) [.Constant (.str txt) n p3] [] p4) env = (do
      let ov ← attributeBase (.Call (.Name "super" p0) [] [] p1) "__init__" env (eval (.Call (.Name "super" p0) [] [] p1) env)
      standAt p2.atName
      let (f, first) ← holding [ov] (getMethod ov "__init__" (pl env))
      callWith p4 f first (backTo p4 (starEach [.Constant (.str txt) n p3] env)) []))
    (len : ∀ vs H Q E, sp vs H Q E → vs.length = ps.length)
    (hbody : ∀ (A : Around) (outer : List Env) (s : Shared) (H : Hp) (vs : List V) (Q : VK) (E : XK), sp vs H Q E → ∃ (a : Addr) (t : TS), vs.head? = some (.ref a) ∧ H a = some (exo a C none) ∧
      PSs (ncY CX P w K mg base N F f A outer s H E) rest t ∧ t { nx := fun _ H' => Q .non H', rt := Q } (startF N vs [some (.ref C)]) H) :
    FnOk P w K mg base CX (k + 1) f fd ps sp := by
  refine ⟨len, fun A outer s H args us vs Q E hr e0 hbd r hsp => ?_⟩
  have hl := len _ _ _ _ hsp
  have C0 := ini_cells T e0
  obtain ⟨oc, dV, kV, doc, pm, ct, od, an, osl, lk, rfl⟩ := T.fn
  have KX : K.In s.heap := e0.mod.kin.keeps fun b o e => (e0.bs b o e).1
  have nol : s.heap.NoLimit := e0.mod.nolimit.keeps fun b o e => (e0.bs b o e).1
  apply codeAny_call_function hr.depth (KX _ _ lk) rfl S.co S.gen rfl (PySem.W.codeRec_of KX T.cd)
  apply hbd
  refine newEnv_fn S.kind (fun ⟨n, _⟩ hy => S.par n (List.of_mem_zip hy).1) fun g hns kp => ?_
  have kp0 : ∀ b o, s.heap.get? b = some o → g.get? b = some o := fun b o e => kp b o (Nat.ne_of_lt (Heap.lt_size e)) (pushCells_keeps _ _ _ _ (Heap.get?_push_of_some _ e))
  refine And.intro (nol.keeps kp0) (ks_codeAny_funcAt ?_)
  obtain ⟨a, t, hv0, ea, run, want⟩ := hbody A outer s H vs Q E hsp
  have inv := inv_startY (CX := CX) (E := E) (f := f) (tk := s.toks + (ps.zip us).length) S hr.hd e0 hl r C0 hns kp
  obtain ⟨ys, rfl⟩ : ∃ ys, vs = .ref a :: ys := by
    cases vs with
    | nil => cases hv0
    | cons v ys => cases hv0; exact ⟨ys, rfl⟩
  have fin : ∀ (fl : Flow) (s' : Shared), SP (ncY CX P w K mg base N F f A outer s H E) [] { nx := fun _ H' => Q .non H', rt := Q } fl s' → CR CX outer P w H s Q E (.ok (.ret (match fl with | .ret v => v | _ => .none))) s' := fun fl s' out => by
    cases fl with
    | ret u => obtain ⟨v, _, H', J, rv, q⟩ := out; exact ⟨v, H', J.os, J.bare, J.base, J.hok, rv, q⟩
    | next => obtain ⟨_, H', J, q⟩ := out; exact ⟨V.non, H', J.os, J.bare, J.base, J.hok, rfl, q⟩
    | brk => obtain ⟨_, _, _, q⟩ := out; exact q.elim
    | cont => obtain ⟨_, _, _, q⟩ := out; exact q.elim
  have nd : N[0]? = some slf ∧ N[ps.length]? = some "__class__" := by
    have e := S.pre
    rw [hps] at e
    refine ⟨?_, ?_⟩
    · have := congrArg (fun l : List Str => l[0]?) e
      simpa using this
    · have := congrArg (fun l : List Str => l[ps.length]?) e
      rw [hps] at this ⊢
      simpa using this
  have sv : (startF N (V.ref a :: ys) [some (V.ref C)])[ps.length]? = some (some (V.ref C)) := by
    unfold startF
    rw [List.getElem?_append_right (by rw [List.length_map]; omega), List.length_map, hl, Nat.sub_self]
    rfl
  rw [hb0]
  refine ks_wpAt_execs_cons (sup_init (X := ncY CX P w K mg base N F f A outer s H E) (i := 0) (j := ps.length) Z X inv ea rfl rfl nd.1 rfl (S.par slf (by rw [hps]; exact List.mem_cons_self ..)) nd.2 sv (S.frk _ (List.mem_cons_self ..)) k2 (sw _) (he _) fun s' J => ?_)
  exact wpAt_of_wpAny (wpAny_mono (run.run [] s' _ H _ J want) fin fun _ _ q => q)
end
end Vm
namespace Vm
open PySem PySem.Spec PyProof.Rows L2 Gk NdefX
/-- it is made: the fields are written, nothing else has changed -/
def spIni (C : Addr) (fs : List Str) : Sp := fun vs H Q _ => ∃ a ys, vs = .ref a :: ys ∧ ys.length = fs.length ∧ H a = some (exo a C none) ∧
  ∀ dx H', H dx = none → dx ≠ a → H' a = some (exo a C (some dx)) → H' dx = some (exd dx (fs.zip ys).reverse) → (∀ b, b ≠ a → b ≠ dx → H' b = H b) → Q .non H'
abbrev supCall (txt : Str) (n : Nat) (p0 p1 p2 p3 p4 : Pos) : Expr := .Call (.Attribute (.Call (.Name "super" p0) [] [] p1) "__init__" p2) [.Constant (.str txt) n p3] [] p4
abbrev selfSet (slf fl x : Str) (q0 q1 q2 q3 : Pos) : Stmt := .Assign [.Attribute (.Name slf q0) fl q1] (.Name x q2) q3
section
variable {CX : CXT} {P : Program} {w : World} {K : PySem.W.Frag} {mg : Str → Option Value} {base : Heap} {F : NF} {f C : Addr} {fd : FuncData} {k : Nat}
variable {txt slf x y fx fy : Str} {n : Nat} {p0 p1 p2 p3 p4 p5 q0 q1 q2 q3 r0 r1 r2 r3 : Pos} {pl : Env → Sem Bool}
theorem ini1 (T : IniK K F f C fd) (S : NSc [slf, x, "__class__"] [slf, x] ["__class__"] F.scope) (Z : SupK P K mg f F.c C slf) (X : OexC K C) (hno : PySem.W.findIn K (.ref C) fx = some none)
    (hb0 : F.body = [.Expr (supCall txt n p0 p1 p2 p3 p4) p5, selfSet slf fx x q0 q1 q2 q3]) (k2 : F.scope.names.lookup ("super" : Str) = some .globalImplicit) (sw : ∀ L : Addr, interactive (envY F f L) = false)
    (he : ∀ env : Env, eval (supCall txt n p0 p1 p2 p3 p4) env = (do
      let ov ← attributeBase (.Call (.Name "super" p0) [] [] p1) "__init__" env (eval (.Call (.Name "super" p0) [] [] p1) env)
      standAt p2.atName
      let (f, first) ← holding [ov] (getMethod ov "__init__" (pl env))
      callWith p4 f first (backTo p4 (starEach [.Constant (.str txt) n p3] env)) []))
    (d0 : (slf == ("__debug__" : Str)) = false := by decide) (c0 : (slf == ("__classdict__" : Str)) = false := by decide) (d1 : (x == ("__debug__" : Str)) = false := by decide) (c1 : (x == ("__classdict__" : Str)) = false := by decide) :
    FnOk P w K mg base CX (k + 1) f fd [slf, x] (spIni C [fx]) := by
  refine ini_fn T S rfl Z X hb0 k2 sw he (fun vs H Q E h => ?_) fun A outer s H vs Q E h => ?_
  · obtain ⟨a, ys, rfl, e, _⟩ := h
    show ys.length + 1 = 2
    rw [e]; rfl
  · obtain ⟨a, ys, rfl, e, ea, q⟩ := h
    obtain ⟨v, rfl⟩ : ∃ v, ys = [v] := by
      cases ys with
      | nil => cases e
      | cons v r =>
        cases r with
        | nil => exact ⟨v, rfl⟩
        | cons _ _ => cases e
    refine ⟨a, _, rfl, ea, pss_one (ps_ost (f := fx) (pe_var (i := 0) rfl (.inl (S.par slf (by simp))) d0 c0) (pe_var (i := 1) rfl (.inl (S.par x (by simp))) d1 c1)), ?_⟩
    refine ⟨v, rfl, .ref a, rfl, a, C, rfl, X, hno, .inl ⟨ea, fun dx h1 h2 => ?_⟩⟩
    exact q dx _ h1 h2 upd_same (by rw [upd_ne h2, upd_same]; rfl) fun b n1 n2 => by rw [upd_ne n1, upd_ne n2]
end
end Vm
namespace Vm
open PySem PySem.Spec PyProof.Rows L2 Gk NdefX
/-- at a: an error of the class cls, its dict at d, whatever was noted in it -/
def exk (a : Addr) (cls : Value) (d : Option Addr) : HO := .ext fun h => ∃ oe vs, h.get? a = some oe ∧ Zc cls d oe ∧ oe.data = .fields vs
theorem exk_ok {P : Program} {w : World} {H : Hp} {h : Heap} {a : Addr} {cls : Value} {d : Option Addr} {oe : Obj} {vs : Array Value} (e : h.get? a = some oe) (z : Zc cls d oe) (f : oe.data = .fields vs) : ObjOk P w H h a (exk a cls d) :=
  ⟨⟨oe, vs, e, z, f⟩, ⟨_, e⟩, fun _ _ ⟨o, us, q1, q2, q3⟩ k => ⟨o, us, k _ q1, q2, q3⟩⟩
theorem exk_at {P : Program} {w : World} {H : Hp} {h : Heap} {a : Addr} {cls : Value} {d : Option Addr} (hok : HOk P w H h) (e : Rd H a (exk a cls d)) : ∃ oe vs, h.get? a = some oe ∧ Zc cls d oe ∧ oe.data = .fields vs := by
  have z : ObjOk P w H h a (.ext fun h => ∃ oe vs, h.get? a = some oe ∧ Zc cls d oe ∧ oe.data = .fields vs) := rd_ok hok e
  exact z.1
section
variable {X : Cx} {pins : List (Addr × Obj)} {σ : L2.St} {H : Hp} {s : Shared} {a : Addr} {o : HO}
/-- an object that came within the def is tracked from now on -/
theorem trk (I : Inv X pins σ H s) (h0 : X.s_0.heap.get? a = none) (ha : H a = none) (nL : a ≠ X.env.locals) (nc : ∀ x c, X.env.cells.lookup x = some c → c ≠ a) (np : ∀ q ∈ X.pn ++ pins, q.1 ≠ a) (new : ObjOk X.prog X.w (upd H a o) s.heap a o) : Inv X pins σ (upd H a o) s := by
  have ne : ∀ {b : Addr} {u : HO}, H b = some u → b ≠ a := fun {b u} e z => by rw [z, ha] at e; cases e
  refine ⟨I.ok, I.os, I.bare, ⟨I.base.keep, I.base.slot, fun b u e n hx => ?_, I.base.there, fun b xs e => ?_, fun b u xs e => ?_, fun b ps e => ?_⟩, I.loc, I.cell, ?_, fun x c e => ?_, fun q hq => ?_, HOk.laidN I.hok (fun _ _ e => e) ha new, I.len⟩
  · rw [upd_ne (fun z => by rw [z, h0] at e; cases e)]
    exact I.base.free b u e n hx
  · have q := I.base.tups b xs e
    rw [upd_ne (ne q)]; exact q
  · have q := I.base.frzs b u xs e
    rw [upd_ne (ne q)]; exact q
  · obtain ⟨more, q⟩ := I.base.tbls b ps e
    exact ⟨more, by rw [upd_ne (ne q)]; exact q⟩
  · rw [upd_ne (Ne.symm nL)]; exact I.free
  · rw [upd_ne (nc x c e)]; exact I.freeC x c e
  · obtain ⟨q1, q2, q3⟩ := I.pin q hq
    exact ⟨q1, by rw [upd_ne (np q hq)]; exact q2, q3⟩
end
/-- what 'except x as n: t = n' wishes: slot i is n's, j is t's -/
def wKp (K : PySem.W.Frag) (c : Value) (i j : Nat) (Wout : WX) (D : Ends) : WX := fun cls d σ H =>
  ∃ b, PySem.W.exmOne K cls c = some b ∧ (b = true → ∀ a, H a = none → D.nx (((σ.set i (some (.ref a))).set j (some (.ref a))).set i none) (upd H a (exk a cls d))) ∧ (b = false → Wout cls d σ H)
section
variable {X : Cx} {x n t : Str} {c : Value} {i j : Nat} {body : List Stmt} {np tp np2 ap pos pos' : Pos} {tb : WX → TS} {Wout : WX}
theorem ps_try_keep (hs : X.stack = X.env :: X.outer) (hf : X.env.frame = some X.env.locals) (hex : X.ex = []) (hN : X.N.Nodup) (hi : X.N[i]? = some n) (hj : X.N[j]? = some t) (ij : i ≠ j) (hli : X.env.kindOf n = some .local) (hlj : X.env.kindOf t = some .local) (hc : Names X x c) (tk : Takes X Wout)
    (hb : ∀ (W : WX) (pn : List (Addr × Obj)) (xe : Value → Shared → Prop), Takes (X.tr pn xe) W → PassesOwn (model X.prog X.w) X.A X.env xe → PSs (X.tr pn xe) body (tb W))
    (d1 : (n == ("__debug__" : Str)) = false := by decide) (d2 : (n == ("__classdict__" : Str)) = false := by decide) (sw : swapsWith (.Name n np2) (some (.Name t tp)) ap.line X.env = pure false := by rfl) :
    PS X (.Try body [.ExceptHandler (some (.Name x np)) (some n) [.Assign [.Name t tp] (.Name n np2) ap] pos'] [] [] pos) (fun D σ H => tb (wKp X.K c i j Wout D) D σ H) := by
  constructor
  intro pins s σ H D I h
  have ok := I.ok
  have hfr : X.A.frames = some (X.env :: X.outer) := by rw [ok.frames, hs]
  let handler : List ExceptHandler := [.ExceptHandler (some (.Name x np)) (some n) [.Assign [.Name t tp] (.Name n np2) ap] pos']
  apply wpAny_Try_except
  have main : ∀ u s', XE (X.tr (X.pn ++ pins) (fun e s₁ => wpAny (model X.prog X.w) X.A (noteFrame e X.env) (fun _ s₂ => wpAny (model X.prog X.w) X.A (setFlight e none) (fun _ s₃ =>
      wpAny (model X.prog X.w) X.A (handleBy e X.env handler) (SP X pins D) X.xe s₃) X.xe s₂) X.xe s₁)) (wKp X.K c i j Wout D) u s' → wpAny (model X.prog X.w) X.A (noteFrame u X.env) (fun _ s₂ => wpAny (model X.prog X.w) X.A (setFlight u none) (fun _ s₃ =>
      wpAny (model X.prog X.w) X.A (handleBy u X.env handler) (SP X pins D) X.xe s₃) X.xe s₂) X.xe s' := by
    rintro _ s' ⟨a, B, sI, pins', σ', H', cls, d, rfl, J', nb, up, sky, na, os, ag, b, hb1, yes, no⟩
    have J : Inv X pins σ' H' sI := J'.ofTry ok
    have sky' : Sky B (X.env :: X.outer) a (Zc cls d) X.env.locals s'.heap := by rw [← hs]; exact sky
    refine Sky.land Zc.steady hfr hf sky' fun h3 fl3 up3 => ?_
    have J3 : Inv X pins σ' H' { s' with heap := h3 } := J.landed nb fl3.1 (up.trans up3) os ag
    obtain ⟨oe3, vs3, he3, hz3, hd3⟩ := fl3.there
    have off : a ∉ frs (X.env :: X.outer) := fun hm => by
      obtain ⟨_, o', e', hnf⟩ := fl3.2.2.1.mem hm
      rw [he3] at e'
      cases e'
      exact hnf _ hd3
    have nL : a ≠ X.env.locals := fun z => off (List.mem_filterMap.mpr ⟨X.env, List.mem_cons_self, by rw [hf, z]⟩)
    have nF : a ∉ X.fs := fun hm => by
      obtain ⟨e, he, q⟩ := List.mem_filterMap.mp hm
      exact off (List.mem_filterMap.mpr ⟨e, List.mem_cons_of_mem _ he, q⟩)
    have gI : sI.heap.get? a = none := by
      cases q : sI.heap.get? a with
      | none => rfl
      | some o =>
        have := nb a o q (by rw [show (X.tr (X.pn ++ pins) _).stack = X.env :: X.outer from hs]; exact off)
        rw [fl3.2.1] at this
        cases this
    have g0 : X.s_0.heap.get? a = none := by
      cases q : X.s_0.heap.get? a with
      | none => rfl
      | some o =>
        obtain ⟨o', e'⟩ := J.base.there a o q (by rw [hex]; exact List.not_mem_nil)
        rw [gI] at e'
        cases e'
    have cne : ∀ x c, X.env.cells.lookup x = some c → c ≠ a := fun y c e z => by
      obtain ⟨v, o, ho, _⟩ := J.cell y c e
      rw [z, gI] at ho
      cases ho
    have pne : ∀ q ∈ X.pn ++ pins, q.1 ≠ a := fun q hq z => by
      have e := (J.pin q hq).1
      rw [z, gI] at e
      cases e
    refine wpAny_handleBy_cons (codeAny_handlers_test ?_) (fun z => by cases z)
    have S3 := J3.suite he3 hd3 na nL nF
    have isA : PySem.W.Looks (model X.prog X.w) h3 (typeOf (.ref a)) cls := fun A Q E s k q => wpAny_typeOf_ref (k _ _ he3) (by rw [hz3.1]; exact q)
    have fits := PySem.W.exm_one (M := model X.prog X.w) J3.kIn isA hb1
    have named : ∀ {Q : Value → Shared → Prop} {E : Value → Shared → Prop}, Q c { s' with heap := h3 } → wpAny (model X.prog X.w) (X.A.mark (some (.ref a))) (eval (.Name x np) X.env) Q E { s' with heap := h3 } := fun {Q E} q => by
      obtain ⟨g1, g2, g3 | ⟨g3, g4, g5⟩⟩ := hc
      · exact ld_glob (X := X.suite a ((a, oe3) :: (X.pn ++ pins))) S3 g1 g3 q g2
      · exact ld_blt (X := X.suite a ((a, oe3) :: (X.pn ++ pins))) S3 g1 g3 g4 q g5 g2
    refine named (fits.here ?_)
    cases b with
    | true =>
      refine codeAny_handlers_suite_as (HandSPX.lands_againZ fl3 fun h4 fl4 up4 => ?_)
      have J4 : Inv X pins σ' H' { s' with heap := h4 } := J.landed nb fl4.1 ((up.trans up3).trans up4) os ag
      obtain ⟨oe4, vs4, he4, hz4, hd4⟩ := fl4.there
      have S4 := J4.suite he4 hd4 na nL nF
      have li : i < σ'.length := by rw [J.len]; exact (List.getElem?_eq_some_iff.mp hi).1
      refine store_ok (X := X.suite a ((a, oe4) :: (X.pn ++ pins))) (v := .ref a) S4 hN hi (.inl hli) rfl (fun s5 S5 => ?_) (.inr hli)
      have st : PSs (X.suite a ((a, oe4) :: (X.pn ++ pins))) [.Assign [.Name t tp] (.Name n np2) ap] (tAsg (tVar i) (gName j)) := pss_one (ps_set hN hj (.inl hlj) (pe_var hi (.inl hli) d1 d2) sw (.inr hlj))
      refine wpAny_mono (st.run [] s5 _ H' { nx := fun σ6 H6 => σ6 = (σ'.set i (some (.ref a))).set j (some (.ref a)) ∧ H6 = H', rt := fun _ _ => False } S5 ⟨.ref a, by rw [List.getElem?_set_self li], rfl, rfl⟩) (fun f s6 hsp => ?_) fun _ _ z => z.elim
      cases f with
      | next =>
        obtain ⟨σ6, H6, S6, rfl, rfl⟩ := hsp
        have e6 := (S6.pin (a, oe4) (List.mem_append_left _ List.mem_cons_self)).1
        have J6 : Inv X pins ((σ'.set i (some (.ref a))).set j (some (.ref a))) H6 s6 := S6.unsuite ok
        have T6 := trk J6 g0 na nL cne pne (o := exk a cls d) (exk_ok e6 hz4 hd4)
        exact gone_ok T6 hN hi hli fun s7 J7 => ⟨_, _, J7, yes rfl a na⟩
      | brk => obtain ⟨_, _, _, z⟩ := hsp; exact z.elim
      | cont => obtain ⟨_, _, _, z⟩ := hsp; exact z.elim
      | ret u => obtain ⟨_, _, _, _, _, z⟩ := hsp; exact z.elim
    | false =>
      refine wpAny_handleBy_nil ?_
      obtain ⟨_, _, _, oe, vs, T, oT, ts', he, hz, hd, h1, hr⟩ := id fl3
      unfold PySem.passOn
      refine wpAny_bind (wpAny_field he hd h1 ?_)
      rw [if_neg (show ¬ ((Value.ref T == Value.none) = true) from by simp)]
      have out : wpAny (model X.prog X.w) X.A (setFlight (.ref a) X.env.frame) (fun _ s4 => wpAny (model X.prog X.w) X.A (throw (.ref a) : Sem Flow) (SP X pins D) X.xe s4) X.xe { s' with heap := h3 } := by
        rw [hf]
        exact HandSPX.setFlight_upZ fl3 fun h4 hh4 up4 => wpAny_throw (tk _ _ ⟨a, B, sI, pins, σ', H', cls, d, rfl, J, nb, (up.trans up3).trans up4, .inr (.inr (by rw [hs]; exact hh4)), na, os, ag, no rfl⟩)
      first
        | exact wpAny_bind (wpAny_pure (wpAny_bind out))
        | exact wpAny_bind out
  refine wpAny_mono ((hb (wKp X.K c i j Wout D) (X.pn ++ pins) _ main PassesOwn.looking).run [] s σ H D (I.toTry _) h) (fun f s1 hsp => ?_) fun e s1 he => he
  cases f with
  | next => obtain ⟨σ', H', J', q⟩ := hsp; exact wpAny_execs_nil ⟨σ', H', J'.ofTry ok, q⟩
  | brk => obtain ⟨σ', H', J', q⟩ := hsp; exact ⟨σ', H', J'.ofTry ok, q⟩
  | cont => obtain ⟨σ', H', J', q⟩ := hsp; exact ⟨σ', H', J'.ofTry ok, q⟩
  | ret u => obtain ⟨v, σ', H', J', r, q⟩ := hsp; exact ⟨v, σ', H', J'.ofTry ok, r, q⟩
end
end Vm
namespace Vm
open PySem PySem.Spec PyProof.Rows L2 Gk NdefX
section
variable {X : Cx} {pins : List (Addr × Obj)} {σ : L2.St} {H : Hp} {s : Shared} {a D : Addr} {d : Option Addr}
theorem exk_inst (I : Inv X pins σ H s) (ea : Rd H a (exk a (.ref D) d)) (hd : ∀ dd, d = some dd → ∃ fs, Rd H dd (.xd fs)) : ∃ oe od, PySem.W.InstAt s.heap a oe D od ∧ (d = none → od = none) := by
  obtain ⟨oe, vs, e, ⟨z1, z2⟩, f⟩ := exk_at I.hok ea
  have nc : PySem.W.notCls oe = true := by unfold PySem.W.notCls; rw [f]
  cases d with
  | none => exact ⟨oe, none, ⟨e, z1, nc, by rw [z2]; exact True.intro⟩, fun _ => rfl⟩
  | some dd =>
    obtain ⟨fs, q⟩ := hd dd rfl
    obtain ⟨mA, hns, _⟩ : ObjOk X.prog X.w H s.heap dd (.xd fs) := rd_ok I.hok q
    obtain ⟨od, ho, _⟩ := lookIn_ns hns
    exact ⟨oe, some od, ⟨e, z1, nc, by rw [z2]; exact ho⟩, fun z => by cases z⟩
/-- isinstance(e, C), e kept -/
def rIsX (K : PySem.W.Frag) : List V → Hp → VK → Prop := fun xs H Q => ∃ (a D : Addr) (d : Option Addr) (c : V) (cv : Value) (b : Bool), xs = [.ref a, c] ∧ Rd H a (exk a (.ref D) d) ∧ (∀ dd, d = some dd → ∃ fs, Rd H dd (.xd fs)) ∧ ExcC K D ∧
  (∀ u, RelV c u → u = cv) ∧ PySem.W.kitOne K (.ref D) cv = some b ∧ Q (.bl b) H
theorem excC_kit {K : PySem.W.Frag} {od : Option Obj} (C : ExcC K D) : PySem.W.KitX K (.ref a) (.ref D) (fun h => ∃ oe, PySem.W.InstAt h a oe D od) := by
  have cl : (PySem.W.clsIn K D).isSome = true := by
    obtain ⟨cd, hc, _⟩ := PySem.W.any_some C.hd
    rw [hc]; rfl
  have Z := fun oe : Obj => PySem.W.kitx_exc (x := a) (ox := oe) (od := od) cl C.hg C.hk C.hs C.ha C.hn C.ht C.hm
  exact ⟨fun M h X ⟨oe, I⟩ => (Z oe).ty M h X I, fun M h X ⟨oe, I⟩ => (Z oe).it M h X I, fun h tp dd its n sl X q => (Z default).ne h tp dd its n sl X q, fun X ⟨oe, I⟩ k => (Z oe).ca X I k⟩
theorem cr_isX : CallR X (.builtin "isinstance") (rIsX X.K) := by
  intro pins s σ H xs us Q I r h
  obtain ⟨a, D, d, c, cv, b, rfl, ea, hd, C, hcv, e, q⟩ := h
  cases r with
  | cons rx rr =>
    cases rr with
    | cons rt rr =>
      cases rr
      cases rx
      obtain rfl := hcv _ rt
      obtain ⟨oe, od, J, _⟩ := exk_inst I ea hd
      exact PySem.W.kia_one (excC_kit (od := od) C) I.kIn ⟨oe, J⟩ e (fun z => nomatch z) fun tk => ⟨.bl b, H, I.kept (t' := tk) fun _ _ z => z, rfl, q⟩
/-- e.n, e kept -/
def tXk (K : PySem.W.Frag) (n : Str) (te : TE) : TE := fun σ H Q => te σ H fun x H1 => ∃ (a C dd : Addr) (fs : List (Str × V)) (v : V), x = .ref a ∧ Rd H1 a (exk a (.ref C) (some dd)) ∧ XfC K C ∧ PySem.W.findIn K (.ref C) n = some none ∧ Rd H1 dd (.xd fs) ∧ fs.lookup n = some v ∧ Q v H1
theorem pe_xk {e : Expr} {te : TE} {pos : Pos} {n : Str} (he : PE X e te) (hb : attributeBase e n X.env (eval e X.env) = eval e X.env := by rfl) : PE X (.Attribute e n pos) (tXk X.K n te) := by
  constructor
  intro pins s σ H Q I h
  refine attr_of hb (thn (he.run pins s σ H _ I h) fun u s1 ⟨x, H1, I1, rx, a, C, dd, fs, v, ex, ea, T, hno, ed, l, q⟩ => ?_)
  subst ex
  obtain rfl : u = Value.ref a := rx
  obtain ⟨oe, vs, ha, ⟨z1, z2⟩, hd⟩ := exk_at I1.hok ea
  obtain ⟨mA, hns, hr⟩ : ObjOk X.prog X.w H1 s1.heap dd (.xd fs) := rd_ok I1.hok ed
  obtain ⟨od, ho, hl⟩ := lookIn_ns hns
  obtain ⟨u, hu, ru⟩ := RelO.some_of (v := v) (o := mA n) (by rw [← l]; exact hr n)
  have J : PySem.W.InstAt s1.heap a oe C (some od) := ⟨ha, z1, by unfold PySem.W.notCls; rw [hd], by rw [z2]; exact ho⟩
  exact HandSPX.exc_get I1.kIn J T.ga T.gg T.exC (PySem.W.findObj_own T.hdC hno rfl (by rw [hl, hu])) (handed_of ru) ⟨v, H1, I1.tok _, ru, q⟩
end
end Vm
namespace Vm
open PySem PySem.Spec PyProof.Rows L2 Gk NdefX
/-- an error: its class by its name, its fields -/
structure Xd where
  cls : Str
  fs : List (Str × Da)
def FsZ (K : PySem.W.Frag) (p : List Addr) (H : Hp) : List (Str × V) → List (Str × Da) → Prop := Paired fun (q : Str × V) (r : Str × Da) => q.1 = r.1 ∧ Dz K p H q.2 r.2
/-- the class and the dict of an error on its way -/
def ExR (K : PySem.W.Frag) (p : List Addr) (H : Hp) (x : Xd) (c : Value) (d : Option Addr) : Prop :=
  c = .ref (He.ga K x.cls) ∧ ((x.fs = [] ∧ d = none) ∨ ∃ dd fv, d = some dd ∧ dd ∉ p ∧ Rd H dd (.xd fv) ∧ FsZ K p H fv x.fs)
/-- a def that raises g's error, of data -/
def spX (K : PySem.W.Frag) (g : List Da → Option Xd) : Sp := fun vs H _ E => ∃ p ds x, Rel K p H (vs.map some) (ds.map AV.d) (fun _ => []) ∧ g ds = some x ∧
  ∀ p' H' c d, Rel K p' H' (vs.map some) (ds.map AV.d) (fun _ => []) → Step p H (vs.map some) (ds.map AV.d) (fun _ => []) p' H' (vs.map some) (ds.map AV.d) (fun _ => []) → ExR K p' H' x c d → E c d H'
/-- what is run, and raises in the end -/
abbrev MX := AS → Option (Xd × AS)
structure RefX (K : PySem.W.Frag) (t : WX → TS) (m : MX) : Prop where
  go : ∀ p H σ α A x α' (W : WX) D, Rel K p H σ α A → m α = some (x, α') →
    (∀ p' H' σ' A' c d, Rel K p' H' σ' α' A' → Step p H σ α A p' H' σ' α' A' → ExR K p' H' x c d → W c d σ' H') → t W D σ H
structure RefEX (K : PySem.W.Frag) (t : WX → TE) (m : MX) : Prop where
  go : ∀ p H σ α A x α' (W : WX) Q, Rel K p H σ α A → m α = some (x, α') →
    (∀ p' H' A' c d, Rel K p' H' σ α' A' → Step p H σ α A p' H' σ α' A' → ExR K p' H' x c d → W c d σ H') → t W σ H Q
section
variable {K : PySem.W.Frag} {p p' p2 : List Addr} {H H' H2 : Hp} {σ σ' σ2 : L2.St} {α α' α2 : AS} {A A' A2 : FT}
theorem FsZ.tr (t : Tr p H p' H') : ∀ {fv : List (Str × V)} {fs : List (Str × Da)}, FsZ K p H fv fs → FsZ K p' H' fv fs
  | _, _, .nil => .nil
  | _, _, .cons h r => .cons ⟨h.1, h.2.tr t⟩ (FsZ.tr t r)
theorem FsZ.look : ∀ {fv : List (Str × V)} {fs : List (Str × Da)} {n : Str} {x : Da}, FsZ K p H fv fs → fs.lookup n = some x → ∃ v, fv.lookup n = some v ∧ Dz K p H v x
  | [], _, _, _, .nil, e => by cases e
  | (a, v) :: r, (b, y) :: s, n, x, .cons h t, e => by
    obtain ⟨h1, h2⟩ := h
    dsimp only at h1 h2
    subst h1
    rw [List.lookup_cons] at e ⊢
    split at e
    · cases e
      exact ⟨v, rfl, h2⟩
    · exact FsZ.look t e
theorem fsz_zip : ∀ {fs : List Str} {vs : List V} {ds : List Da}, DzA K p H vs ds → FsZ K p H (fs.zip vs) (fs.zip ds)
  | [], _, _, _ => .nil
  | _ :: _, _, _, .nil => .nil
  | f :: fs, _, _, .cons h t => .cons ⟨rfl, h⟩ (fsz_zip t)
theorem paired_rev {α β : Type} {R : α → β → Prop} : ∀ {xs : List α} {ys : List β}, Paired R xs ys → Paired R xs.reverse ys.reverse
  | _, _, .nil => .nil
  | _, _, .cons h t => by
    rw [List.reverse_cons, List.reverse_cons]
    exact paired_app (paired_rev t) (.cons h .nil)
theorem refX_seq {t : TS} {u : WX → TS} {m : MS} {n : MX} (ht : RefS K t m) (hu : RefX K u n) : RefX K (fun W => tSeq t (u W)) (fun α => (m α).bind fun o => match o with
    | .nx β => n β
    | _ => none) := ⟨fun p H σ α A x α' W D R e h => by
  simp only [Option.bind_eq_some_iff] at e
  obtain ⟨o, e1, e2⟩ := e
  refine ht.go p H σ α A o _ R e1 ?_
  cases o with
  | nx β => exact fun p1 H1 σ1 A1 R1 S1 => hu.go p1 H1 σ1 β A1 x α' W D R1 e2 fun p2 H2 σ2 A2 c d R2 S2 z => h p2 H2 σ2 A2 c d R2 (S1.trans R S2) z
  | _ => cases e2⟩
/-- the first statement raises: the others don't matter -/
def tFst (t : TS) : TS := fun D σ H => t { D with nx := fun _ _ => False } σ H
theorem pss_fst {X : Cx} {st : Stmt} {rest : List Stmt} {t : TS} (h : PS X st t) : PSs X (st :: rest) (tFst t) := by
  constructor
  intro pins s σ H D I w
  refine wpAny_execs_cons (thn (h.run pins s σ H _ I w) fun f s1 q => ?_)
  cases f with
  | next => obtain ⟨_, _, _, z⟩ := q; exact z.elim
  | _ => exact q
theorem refX_fst {t : WX → TS} {m : MX} (h : RefX K t m) : RefX K (fun W => tFst (t W)) m := ⟨fun p H σ α A x α' W D R e q => h.go p H σ α A x α' W _ R e q⟩
theorem refX_ifT {c : TT} {t : WX → TS} {u : TS} {mc : MT} {m : MX} (hc : RefT K c mc) (ht : RefX K t m) : RefX K (fun W => tIfS c (t W) u) (fun α => (mc α).bind fun x => if x.1 = true then m x.2 else none) := ⟨fun p H σ α A x α' W D R e h => by
  simp only [Option.bind_eq_some_iff] at e
  obtain ⟨⟨b, α1⟩, e1, e2⟩ := e
  refine hc.go p H σ α A b α1 _ R e1 fun p1 H1 A1 R1 S1 => ?_
  cases b with
  | true => exact iteT (ht.go p1 H1 σ α1 A1 x α' W D R1 e2 fun p2 H2 σ2 A2 c d R2 S2 z => h p2 H2 σ2 A2 c d R2 (S1.trans R S2) z)
  | false => cases e2⟩
theorem refX_drop {t : WX → TE} {m : MX} (h : RefEX K t m) : RefX K (fun W => tDrop (t W)) m := ⟨fun p H σ α A x α' W D R e q => h.go p H σ α A x α' W _ R e fun p1 H1 A1 c d R1 S1 z => q p1 H1 σ A1 c d R1 S1 z⟩
/-- the arguments' own relation -/
theorem rel_data {vs : List V} {ds : List Da} (R : Rel K p H σ α A) (d : DzA K p H vs ds) : Rel K p H (vs.map some) (ds.map AV.d) (fun _ => []) := by
  refine ⟨by rw [List.length_map, List.length_map]; exact d.length, fun i r e => ?_, fun _ _ => rfl, fun _ => .nil, fun _ _ _ m => (List.not_mem_nil m).elim, fun _ _ m => (List.not_mem_nil m).elim, R.al, R.tb⟩
  rw [List.getElem?_map] at e
  obtain ⟨x, e1, rfl⟩ := Option.map_eq_some_iff.mp e
  obtain ⟨v, e2, z⟩ := d.get e1
  exact ⟨rfl, v, by rw [List.getElem?_map, e2]; rfl, z⟩
theorem rel_backX {vs : List V} {ds : List Da} (R : Rel K p H σ α A) (R0 : Rel K p H (vs.map some) (ds.map AV.d) (fun _ => [])) (R1 : Rel K p' H' (vs.map some) (ds.map AV.d) (fun _ => []))
    (S : Step p H (vs.map some) (ds.map AV.d) (fun _ => []) p' H' (vs.map some) (ds.map AV.d) (fun _ => [])) : Rel K p' H' σ α A ∧ Step p H σ α A p' H' σ α A := by
  have t := S.tr R0
  have ow : ∀ i c, c ∈ A i → ∀ u, H c = some u → H' c = some u := fun i c m u e => (S.keep c u (R.own_tbl m e) e fun _ z => (List.not_mem_nil z).elim).exp (R.inp i c m)
  refine ⟨⟨R.len, fun i r e => (R.sl i r e).tr t (ow i), R.out, R.nd, R.dj, fun i a m => ?_, R1.al, R1.tb⟩, fun b o nt e n => S.keep b o nt e fun _ z => (List.not_mem_nil z).elim, S.dom, fun i b m => .inl m, S.sub, fun b m => ?_, rfl, fun i r e f => ⟨rfl, r, e, .refl⟩, fun i r e f => ⟨r, e, f⟩⟩
  · rcases S.mono a (R.inp i a m) with z | ⟨_, z⟩
    · exact z
    · exact (List.not_mem_nil z).elim
  · rcases S.mono b m with z | ⟨_, z⟩
    · exact .inl z
    · exact (List.not_mem_nil z).elim
theorem call_x {g : List Da → Option Xd} {vs : List V} {ds : List Da} {x : Xd} {Q : VK} {E : XK} (R : Rel K p H σ α A) (d : DzA K p H vs ds) (e : g ds = some x)
    (h : ∀ p' H' c d, Rel K p' H' σ α A → Step p H σ α A p' H' σ α A → ExR K p' H' x c d → E c d H') : spX K g vs H Q E := by
  have R0 := rel_data R d
  refine ⟨p, ds, x, R0, e, fun p' H' c d R1 S1 z => ?_⟩
  obtain ⟨R2, S2⟩ := rel_backX R R0 R1 S1
  exact h p' H' c d R2 S2 z
def xCall (g : List Da → Option Xd) (ma : MA) : MX := fun α => (ma α).bind fun y => (ownA y.2 y.1).bind fun ds => (g ds).map fun x => (x, y.2)
theorem refEX_call {g : List Da → Option Xd} {ta : TA} {ma : MA} (ha : RefA K ta ma) : RefEX K (fun W => tCallS (spX K g) (WE W) ta) (xCall g ma) := ⟨fun p H σ α A x α' W Q R e h => by
  simp only [xCall, Option.bind_eq_some_iff, Option.map_eq_some_iff] at e
  obtain ⟨⟨ls, α1⟩, e1, ds, e2, x', e3, e4⟩ := e
  cases e4
  refine ha.go p H σ α A ls α1 _ R e1 fun p1 H1 A1 vs R1 S1 q => ?_
  exact call_x R1 (ownA_dz R1 q e2) e3 fun p2 H2 c d R2 S2 z => h p2 H2 A1 c d R2 (S1.trans R S2) z⟩
end
end Vm
namespace Vm
open PySem PySem.Spec PyProof.Rows L2 Gk NdefX
/-- a def by what it raises -/
def gDef (np n : Nat) (m : MX) : List Da → Option Xd := fun ds => if ds.length = np then (m (startA n (ds.map AV.d))).map (·.1) else none
/-- a class of errors: its __init__ writes these fields -/
def ClE (P : Program) (w : World) (K : PySem.W.Frag) (mg : Str → Option Value) (base : Heap) (k : Nat) (cn : Str) (fs : List Str) : Prop :=
  OexC K (He.ga K cn) ∧ mg cn = some (.ref (He.ga K cn)) ∧ ∃ fI fd ps, PySem.W.findIn K (.ref (He.ga K cn)) "__init__" = some (some (.ref fI)) ∧ PySem.W.typeIn K (.ref fI) = some (.type "function") ∧ FnOk P w K mg base CX0 k fI fd ps (spIni (He.ga K cn) fs) ∧ Binds K fd ps []
/-- a def that lets errors out -/
def ClX (P : Program) (w : World) (K : PySem.W.Frag) (mg : Str → Option Value) (base : Heap) (k : Nat) (x : Str) (ps : List Str) (sp : Sp) : Prop :=
  ∃ f fd, FnG P w K mg base (L2.CX P w) k f fd ps sp ∧ mg x = some (.ref f) ∧ PySem.W.keepIn K (.ref f) = true ∧ Binds K fd ps []
section
variable {K : PySem.W.Frag} {p p' p2 : List Addr} {H H' H2 : Hp} {σ σ' σ2 : L2.St} {α α' α2 : AS} {A A' A2 : FT}
theorem backP_data (ds : List Da) (α : AS) : backP (ds.map AV.d) α = ds.map AV.d := by
  apply List.ext_getElem?
  intro i
  rw [backP_get]
  cases e : (ds.map AV.d)[i]? with
  | none => rfl
  | some r =>
    rw [List.getElem?_map] at e
    obtain ⟨x, _, rfl⟩ := Option.map_eq_some_iff.mp e
    rfl
theorem body_okX {N : List Str} {vs : List V} {np : Nat} {m : MX} {t : WX → TS} {Q : VK} {E : XK} {D : Ends} (hb : RefX K t m) (hN : np ≤ N.length) (h : spX K (gDef np N.length m) vs H Q E) : t (fun c d _ H => E c d H) D (start N vs) H := by
  obtain ⟨p, ds, x, R, e, q⟩ := h
  unfold gDef at e
  split at e
  · rename_i hl
    obtain ⟨⟨x', α'⟩, e1, e2⟩ := Option.map_eq_some_iff.mp e
    cases e2
    have hN' : (ds.map AV.d).length ≤ N.length := by rw [List.length_map]; omega
    refine hb.go p H _ _ _ x' α' _ D (rel_start R hN') e1 fun p1 H1 σ1 A1 c d R1 S1 z => ?_
    obtain ⟨B, RB, SB, _, _⟩ := end_args R hN' R1 S1
    rw [backP_data] at RB SB
    have eB : B = fun _ => [] := by
      funext i
      cases e : (ds.map AV.d)[i]? with
      | none => exact RB.out i e
      | some r =>
        have e' := e
        rw [List.getElem?_map] at e'
        obtain ⟨y, _, rfl⟩ := Option.map_eq_some_iff.mp e'
        exact (RB.sl i _ e).1
    subst eB
    exact q p1 H1 c d RB SB z
  · cases e
theorem spX_len {g : List Da → Option Xd} {n : Nat} (hn : ∀ ds x, g ds = some x → ds.length = n) {vs : List V} {Q : VK} {E : XK} (h : spX K g vs H Q E) : vs.length = n := by
  obtain ⟨p, ds, x, R, e, _⟩ := h
  have := R.len
  rw [List.length_map, List.length_map] at this
  rw [this]; exact hn ds x e
theorem gDef_len {np n : Nat} {m : MX} (ds : List Da) (x : Xd) (h : gDef np n m ds = some x) : ds.length = np := by
  unfold gDef at h
  split at h
  · assumption
  · cases h
/-- raise C(e, ..) -/
def xRaise (cn : Str) (fs : List Str) (ma : MA) : MX := fun α => (ma α).bind fun y => (ownA y.2 y.1).bind fun ds => if ds.length = fs.length ∧ fs.length ≤ 1000 then some (⟨cn, (fs.zip ds).reverse⟩, y.2) else none
theorem refX_raise {cn : Str} {fs : List Str} {ta : TA} {ma : MA} (ha : RefA K ta ma) : RefX K (fun W => fun _ σ H => tMkO (He.ga K cn) (spIni (He.ga K cn) fs) [] ta σ H fun c d H' => W c d σ H') (xRaise cn fs ma) := ⟨fun p H σ α A x α' W D R e h => by
  simp only [xRaise, Option.bind_eq_some_iff] at e
  obtain ⟨⟨ls, α1⟩, e1, ds, e2, e3⟩ := e
  split at e3
  · rename_i hl
    cases e3
    refine ha.go p H σ α A ls α1 _ R e1 fun p1 H1 A1 vs R1 S1 q => ?_
    have dz := ownA_dz R1 q e2
    have lv : vs.length = fs.length := dz.length.trans hl.1
    refine ⟨by rw [lv]; exact hl.2, fun a na => ?_⟩
    refine ⟨a, vs, by rw [List.append_nil], lv, upd_same, fun dx H' h1 h2 h3 h4 h5 => ?_⟩
    have h1' : H1 dx = none := by rwa [upd_ne h2] at h1
    refine ⟨rfl, dx, _, h3, h4, h1', ?_⟩
    have eH : upd (del H' a) dx (.xd (fs.zip vs).reverse) = upd H1 dx (.xd (fs.zip vs).reverse) := by
      funext b
      unfold upd del
      split
      · rfl
      · rename_i z
        split
        · rename_i z2; rw [z2, na]
        · rename_i z2
          rw [h5 b z2 z, upd_ne z2]
    rw [eH]
    have s := same_new (o := .xd (fs.zip vs).reverse) h1'
    refine h p1 _ σ A1 _ _ (R1.same s) (S1.trans R (.same s)) ⟨rfl, .inr ⟨dx, _, rfl, fun z => R1.al dx z h1', .inl upd_same, ?_⟩⟩
    exact FsZ.tr (tr_same s) (paired_rev (fsz_zip dz))
  · cases e3⟩
end
section
variable {X : Cx} {W : WX} {k j n : Nat} {x cn : Str} {fs ps ks : List Str} {sp : Sp} {p pos : Pos} {e : Expr} {es : List Expr} {t tk : TA} {kws : List Keyword} {gV : List V → List V → List V} {E : XK}
theorem ps_raiseE {pos2 : Pos} (T : ClE X.prog X.w X.K X.mg X.base k cn fs) (hc : X.calm = true) (tkW : Takes X W) (hr : Room j X.A) (hk : k + 1 ≤ j) (hg : Gl X cn) (ha : PA X (e :: es) t) (hdb : (cn == ("__debug__" : Str)) = false := by decide)
    (he : starEach (e :: es) X.env = (false, eval e X.env) :: starEach es X.env := by rfl) (hpl : (backTo pos (starEach es X.env)).any (·.1) = false := by rfl) :
    PS X (.Raise (some (.Call (.Name cn p) (e :: es) [] pos)) none pos2) (fun _ σ H => tMkO (He.ga X.K cn) (spIni (He.ga X.K cn) fs) [] t σ H fun c d H' => W c d σ H') := by
  obtain ⟨O, hm, fI, fd, ps, iC, tI, F, b⟩ := T
  exact ps_raise hc tkW (pmk_oex O iC tI F (hr.mono hk) b .nil pass0 hg hm ha hdb he hpl)
theorem pe_callSG (c : ClX X.prog X.w X.K X.mg X.base k x ps sp) (gd : X.A.guards = some []) (hr : Room j X.A) (hk : k ≤ j) (hg : Gl X x) (tkW : Takes X W) (ha : PA X (e :: es) t) (hdb : (x == ("__debug__" : Str)) = false := by decide)
    (he : starEach (e :: es) X.env = (false, eval e X.env) :: starEach es X.env := by rfl) (hpl : (backTo pos (starEach es X.env)).any (·.1) = false := by rfl) :
    PE X (.Call (.Name x p) (e :: es) [] pos) (tCallS sp (WE W) t) := by
  obtain ⟨f, fd, F, hm, kp, b⟩ := c
  constructor
  intro pins s σ H Q I h
  refine wpAny_Call_Name_kw (ld_glob I hg hm ?_ hdb)
  refine PySem.W.callWith_K (h₀ := X.base) I.ok.mod.kin kp ?_ he hpl
  refine thn (ha.run pos pins s σ H _ I h) fun us s1 ⟨vs, H1, I1, r, q⟩ => ⟨I1.kIn, ?_⟩
  have hl : (us ++ []).length = ps.length := by rw [List.append_nil, ← r.length]; exact F.ar _ _ _ _ q
  have bt := b s1 us I1.kIn hl
  rw [List.append_nil] at bt
  refine wpAny_call (codeAny_mono (F.go X.A X.stack s1 H1 ⟨us, []⟩ us vs Q _ gd (hr.mono hk) I1.env0 bt r q) fun out s' z => ?_)
  rcases out with er | fl
  · exact tkW er s' (XE.of_call I1 (fun _ _ _ y => y) z)
  · cases fl <;> first | exact I1.after z | exact z.elim
end
end Vm
namespace Vm
open PySem PySem.Spec PyProof.Rows L2 Gk NdefX
structure RefTry (K : PySem.W.Frag) (t : WX → TS) (mn : MS) (mx : MX) : Prop where
  nx : ∀ p H σ α A o (W : WX) D, Rel K p H σ α A → mn α = some o → EndsR K p H σ α A D o → t W D σ H
  xx : RefX K t mx
/-- the error that a name keeps -/
def ExD (K : PySem.W.Frag) (p : List Addr) (H : Hp) (x : Xd) (d : Option Addr) : Prop := (x.fs = [] ∧ d = none) ∨ ∃ dd fv, d = some dd ∧ dd ∉ p ∧ Rd H dd (.xd fv) ∧ FsZ K p H fv x.fs
def exG (K : PySem.W.Frag) (x : Xd) : List Addr → Hp → Addr → Prop := fun p H a => a ∉ p ∧ ∃ d, Rd H a (exk a (.ref (He.ga K x.cls)) d) ∧ ExD K p H x d
def sTryK (K : PySem.W.Frag) (i j : Nat) (mn : MS) (mx : MX) : MS := fun α => match mx α with
  | some (x, β) => match β[i]?, β[j]? with
    | some q, some r => if q.isRoot = false ∧ r.isRoot = false then some (.nx (((β.set i .un).set j (.g (exG K x))).set i .un)) else none
    | _, _ => none
  | none => mn α
section
variable {K : PySem.W.Frag} {p p' p2 : List Addr} {H H' H2 : Hp} {σ σ' σ2 : L2.St} {α α' α2 : AS} {A A' A2 : FT}
theorem ExD.tr (t : Tr p H p' H') {x : Xd} {d : Option Addr} (h : ExD K p H x d) : ExD K p' H' x d := by
  rcases h with h | ⟨dd, fv, h1, h2, h3, h4⟩
  · exact .inl h
  · have z := t.mt dd _ rfl h2 h3
    exact .inr ⟨dd, fv, h1, z.2, z.1, h4.tr t⟩
theorem exG_tr {x : Xd} {a : Addr} (t : Tr p H p' H') (h : exG K x p H a) : exG K x p' H' a := by
  obtain ⟨h1, d, h2, h3⟩ := h
  have z := t.mt a _ rfl h1 h2
  exact ⟨z.2, d, z.1, h3.tr t⟩
theorem ref_tryK {tb : WX → TS} {mn : MS} {mx : MX} {c : Value} {i j : Nat} {Wout : WX} (ht : RefTry K tb mn mx) (ij : i ≠ j) (hcl : ∀ α x β, mx α = some (x, β) → PySem.W.exmOne K (.ref (He.ga K x.cls)) c = some true) :
    RefS K (fun D σ H => tb (wKp K c i j Wout D) D σ H) (sTryK K i j mn mx) := ⟨fun p H σ α A o D R e h => by
  unfold sTryK at e
  cases em : mx α with
  | none =>
    rw [em] at e
    exact ht.nx p H σ α A o _ D R e h
  | some y =>
    obtain ⟨x, β⟩ := y
    rw [em] at e
    dsimp only at e
    cases ei : β[i]? with
    | none => rw [ei] at e; cases e
    | some q =>
      cases ej : β[j]? with
      | none => rw [ei, ej] at e; cases e
      | some r =>
        rw [ei, ej] at e
        dsimp only at e
        split at e
        · rename_i hq
          cases e
          refine ht.xx.go p H σ α A x β _ D R em fun p1 H1 σ1 A1 c' d R1 S1 z => ?_
          obtain ⟨rfl, ex⟩ := z
          refine ⟨true, hcl α x β em, fun _ a na => ?_, fun z => by cases z⟩
          have s := same_new (o := exk a (.ref (He.ga K x.cls)) d) na
          have nf : ∀ {q : AV}, q.isRoot = false → q.isFix = false := fun {q} h => by
            cases e : q.isFix with
            | false => rfl
            | true => rw [isRoot_of_isFix e] at h; cases h
          have R2 := R1.same s
          have S2 : Step p H σ α A p1 (upd H1 a (exk a (.ref (He.ga K x.cls)) d)) σ1 β A1 := S1.trans R (.same s)
          have G : exG K x p1 (upd H1 a (exk a (.ref (He.ga K x.cls)) d)) a := ⟨fun m => R1.al a m na, d, .inl upd_same, ExD.tr (tr_same s) ex⟩
          have li : i < β.length := (List.getElem?_eq_some_iff.mp ei).1
          have R3 := rel_put (o := some (.ref a)) (r := .un) (f := []) R2 ei rfl .nil (fun _ m => (List.not_mem_nil m).elim) (fun _ m => (List.not_mem_nil m).elim)
          have T3 := step_put (o := some (.ref a)) (r := .un) (f := []) R2 ei (nf hq.1) rfl (fun _ m => (List.not_mem_nil m).elim)
          have ej3 : (β.set i .un)[j]? = some r := by rw [List.getElem?_set_ne ij]; exact ej
          have R4 := rel_put (o := some (.ref a)) (r := .g (exG K x)) (f := []) R3 ej3 ⟨rfl, a, rfl, G, fun _ _ _ _ t => exG_tr t⟩ .nil (fun _ m => (List.not_mem_nil m).elim) (fun _ m => (List.not_mem_nil m).elim)
          have T4 := step_put (o := some (.ref a)) (r := .g (exG K x)) (f := []) R3 ej3 (nf hq.2) rfl (fun _ m => (List.not_mem_nil m).elim)
          have ei5 : ((β.set i .un).set j (.g (exG K x)))[i]? = some .un := by rw [List.getElem?_set_ne (Ne.symm ij), List.getElem?_set_self li]
          have R5 := rel_put (o := none) (r := .un) (f := []) R4 ei5 rfl .nil (fun _ m => (List.not_mem_nil m).elim) (fun _ m => (List.not_mem_nil m).elim)
          have T5 := step_put (o := none) (r := .un) (f := []) R4 ei5 rfl rfl (fun _ m => (List.not_mem_nil m).elim)
          exact h p1 _ _ _ R5 (((S2.trans R T3).trans R T4).trans R T5)
        · cases e⟩
/-- isinstance(e, C), e kept or None -/
def rIsU (K : PySem.W.Frag) : List V → Hp → VK → Prop := fun xs H Q => rIsX K xs H Q ∨ ∃ (c : V) (cv : Value) (b : Bool), xs = [.non, c] ∧ (∀ u, RelV c u → u = cv) ∧ PySem.W.kitOne K (.type "NoneType") cv = some b ∧ Q (.bl b) H
theorem cr_isU {X : Cx} : CallR X (.builtin "isinstance") (rIsU X.K) := by
  intro pins s σ H xs us Q I r h
  rcases h with h | ⟨c, cv, b, rfl, hcv, e, q⟩
  · exact cr_isX pins s σ H xs us Q I r h
  · cases r with
    | cons rx rr =>
      cases rr with
      | cons rt rr =>
        cases rr
        obtain rfl := hcv _ rt
        exact isinst_ok I rx .non e fun tk => ⟨.bl b, H, I.kept (t' := tk) fun _ _ z => z, rfl, q⟩
open Classical in
noncomputable def eIsX (K : PySem.W.Frag) (i : Nat) (x : Xd) (b : Bool) : ME := fun α => if α[i]? = some (.g (exG K x)) then some (.d (.bool b), α) else none
theorem exD_dict {x : Xd} {d : Option Addr} (h : ExD K p H x d) : ∀ dd, d = some dd → ∃ fs, Rd H dd (.xd fs) := fun dd e => by
  rcases h with ⟨_, h⟩ | ⟨d2, fv, h, _, h3, _⟩
  · rw [h] at e; cases e
  · rw [h] at e; cases e; exact ⟨fv, h3⟩
theorem rel_g {x : Xd} {i : Nat} (R : Rel K p H σ α A) (e : α[i]? = some (.g (exG K x))) : ∃ a, σ[i]? = some (some (.ref a)) ∧ exG K x p H a := by
  obtain ⟨_, a, e1, g, _⟩ := R.sl i _ e
  exact ⟨a, by cases q : σ[i]? with
    | none => rw [q] at e1; cases e1
    | some o => rw [q] at e1; rw [show o = some (.ref a) from e1], g⟩
theorem ref_isX {i : Nat} {x : Xd} {b : Bool} {c : V} {cv : Value} (C : ExcC K (He.ga K x.cls)) (hc : ∀ u, RelV c u → u = cv) (hk : PySem.W.kitOne K (.ref (He.ga K x.cls)) cv = some b) : RefE K (tCB (rIsU K) (tCons (tVar i) (tCons (tC c) tNil))) (eIsX K i x b) := ⟨fun p H σ α A l α' Q R e h => by
  unfold eIsX at e
  split at e
  · rename_i g
    cases e
    obtain ⟨a, e1, _, d, k, ex⟩ := rel_g R g
    exact ⟨.ref a, e1, .inl ⟨a, _, d, c, cv, b, rfl, k, exD_dict ex, C, hc, hk, h p H A _ R .refl (.bl b)⟩⟩
  · cases e⟩
open Classical in
/-- e.n -/
noncomputable def eFld (K : PySem.W.Frag) (i : Nat) (x : Xd) (n : Str) : ME := fun α => if α[i]? = some (.g (exG K x)) then (x.fs.lookup n).map fun y => (.d y, α) else none
theorem ref_fld {i : Nat} {x : Xd} {n : Str} (T : XfC K (He.ga K x.cls)) (hno : PySem.W.findIn K (.ref (He.ga K x.cls)) n = some none) : RefE K (tXk K n (tVar i)) (eFld K i x n) := ⟨fun p H σ α A l α' Q R e h => by
  unfold eFld at e
  split at e
  · rename_i g
    obtain ⟨y, e1, e2⟩ := Option.map_eq_some_iff.mp e
    cases e2
    obtain ⟨a, e3, _, d, k, ex⟩ := rel_g R g
    rcases ex with ⟨z, _⟩ | ⟨dd, fv, rfl, _, h3, h4⟩
    · rw [z] at e1; cases e1
    · obtain ⟨v, lv, dz⟩ := h4.look e1
      exact ⟨.ref a, e3, a, _, dd, fv, v, rfl, k, T, hno, h3, lv, h p H A v R .refl dz⟩
  · cases e⟩
end
end Vm
namespace K04
open PySem PySem.Spec PyProof.Rows L2 Gk Vm Wo
noncomputable def t_wound_at : MT := mOr (mNot (mTru (eCall F_is_whole [] (aCons (eV 2) aNil)))) (mNot (tOfE (eChain fLe fLt (eC (.int 0)) (eV 2) (eOp fSubs (eOp fSubs (eV 4) (eUn fNeg (eC (.int 1)))) (eC (.int 0))))))
noncomputable def x_wound_at : MX := fun α => (sAsg (eCall F_greatest_steps [] (aCons (eV 0) aNil)) (setD 3) α).bind fun o => match o with
  | .nx β => (sAsg (eCall F_count_ends [] (aCons (eV 3) (aCons (eV 1) aNil))) (setD 4) β).bind fun o => match o with
    | .nx γ => (t_wound_at γ).bind fun x => if x.1 = true then xRaise "NoNumber" ["number"] (aCons (eV 2) aNil) x.2 else none
    | _ => none
  | _ => none
noncomputable def g_wound_at : List Da → Option Xd := gDef 3 10 x_wound_at
theorem okX_wound_at {P : Program} {w : World} {K : PySem.W.Frag} {mg : Str → Option Value} {base : Heap} {f : Addr} {fd : FuncData} (F : FnP K "wound_at" s_wound_at f fd) (B : Bi mg) (c_is_whole : ClG P w K mg base 1 "is_whole" ["thing"] (spV K F_is_whole)) (c_count_ends : ClG P w K mg base 1 "count_ends" ["steps", "size"] (spV K F_count_ends)) (c_greatest_steps : ClG P w K mg base 7 "greatest_steps" ["word"] (spV K F_greatest_steps))
    (e_NoNumber : ClE P w K mg base 1 "NoNumber" ["number"]) : FnG P w K mg base (L2.CX P w) 8 f fd ["word", "size", "number"] (spX K g_wound_at) := by
  refine okGD F sc_wound_at (fun vs H Q E h => spX_len gDef_len h) (fun cdv A outer s H vs Q E hg hr h => ?_)
  have T : Takes (cxOf (L2.CX P w) P w K mg base ["word", "size", "number", "steps", "counts", "row", "place", "left", "ends", "name"] "wound_at" (defScope s_wound_at) f cdv A outer s H E) (fun c d _ H => E c d H) := takes_of rfl rfl rfl rfl
  exact ⟨_, pss_cons (ps_set (i := 3) sc_wound_at.nd rfl (Or.inl rfl) (pe_clG c_greatest_steps hg hr (by decide) (by rfl) (pa_cons (pv 0) pa_nil)))
      (pss_cons (ps_set (i := 4) sc_wound_at.nd rfl (Or.inl rfl) (pe_clG c_count_ends hg hr (by decide) (by rfl) (pa_cons (pv 3) (pa_cons (pv 1) pa_nil))))
      (pss_fst (ps_if ((pw_or (pt_not (pt_tru (pe_clG c_is_whole hg hr (by decide) (by rfl) (pa_cons (pv 2) pa_nil)))) (pw_or1 (pt_not (pt_chain op_le op_lt pe_int (pv 2) (pe_orE (pe_ix ix_any (pe_orE (pe_ix ix_any (pv 4) (pe_un un_neg pe_int) (fun _ _ => rfl)) (pe_dget (hu_of hr) (pv 4) (pe_un un_neg pe_int) (fun _ _ => rfl))) pe_int (fun _ _ => rfl)) (pe_dget (hu_of hr) (pe_orE (pe_ix ix_any (pv 4) (pe_un un_neg pe_int) (fun _ _ => rfl)) (pe_dget (hu_of hr) (pv 4) (pe_un un_neg pe_int) (fun _ _ => rfl))) pe_int (fun _ _ => rfl)))))))).pt
        (pss_one (ps_raiseE e_NoNumber rfl T hr (by decide) (by rfl) (pa_cons (pv 2) pa_nil))) pss_nil))),
    body_okX (m := x_wound_at) (refX_seq (ref_asg (ref_call .nil (ref_cons ref_var ref_nil)) ref_gName) (refX_seq (ref_asg (ref_call .nil (ref_cons ref_var (ref_cons ref_var ref_nil))) ref_gName)
      (refX_fst (refX_ifT (mc := t_wound_at) (ref_or (ref_not (ref_tru (ref_call .nil (ref_cons ref_var ref_nil)))) (ref_not (ref_test (ref_chain rr_IB rr_IB ref_int ref_var (ref_sub (ref_sub ref_var (ref_un rr_neg ref_int)) ref_int))))) (refX_raise (ref_cons ref_var ref_nil)))))) (by decide) h⟩
structure XF (K : PySem.W.Frag) (mg : Str → Option Value) : Prop where
  ex : ExcC K (He.ga K "NoNumber")
  xf : XfC K (He.ga K "NoNumber")
  no : PySem.W.findIn K (.ref (He.ga K "NoNumber")) "number" = some none
  ct : PySem.W.exmOne K (.ref (He.ga K "NoNumber")) (.ref (He.ga K "WalkError")) = some true
  i1 : PySem.W.kitOne K (.ref (He.ga K "NoNumber")) (.ref (He.ga K "NoNumber")) = some true
  g1 : mg "WalkError" = some (.ref (He.ga K "WalkError"))
  g2 : mg "NoNumber" = some (.ref (He.ga K "NoNumber"))
abbrev s_law_is_none : Stmt := topS 30
theorem sc_law_is_none : FnScope ["_law_word_here", "_law_size", "_law_number", "_law_caught", "error"] ["_law_word_here", "_law_size", "_law_number"] (defScope s_law_is_none) := ⟨rfl, rfl, rfl, by decide +kernel, rfl, by decide +kernel, by decide +kernel⟩
noncomputable def x_try : MX := xCall g_wound_at (aCons (eV 0) (aCons (eV 1) (aCons (eV 2) aNil)))
noncomputable def m_rest (K : PySem.W.Frag) (x : Xd) : MS := sRet (eAnd (eIsX K 3 x true) (eOp fEqS (eCB fRepr (aCons (eFld K 3 x "number") aNil)) (eCB fRepr (aCons (eV 2) aNil))))
open Classical in
noncomputable def x_tryN : MX := fun α => (x_try α).bind fun y => if y.1.cls = "NoNumber" then some y else none
noncomputable def n_none (K : PySem.W.Frag) : MS := fun β => match x_tryN β with
  | some (x, _) => sSeq (sTryK K 4 3 (fun _ => none) x_tryN) (m_rest K x) β
  | none => none
noncomputable def m_none (K : PySem.W.Frag) : MS := sSeq (sAsg (eC .none) (setD 3)) (n_none K)
theorem tryN_some {α : AS} {x : Xd} {β : AS} (h : x_tryN α = some (x, β)) : x_try α = some (x, β) ∧ x.cls = "NoNumber" := by
  unfold x_tryN at h
  obtain ⟨y, e1, e2⟩ := Option.bind_eq_some_iff.mp h
  split at e2
  · rename_i hc
    cases e2
    exact ⟨e1, hc⟩
  · cases e2
theorem okM_law_is_none {P : Program} {w : World} {K : PySem.W.Frag} {mg : Str → Option Value} {base : Heap} {f : Addr} {fd : FuncData} (F : FnP K "_law_is_none" s_law_is_none f fd) (B : Bi mg) (Z : XF K mg)
    (x_wound_at : ClX P w K mg base 8 "wound_at" ["word", "size", "number"] (spX K g_wound_at)) :
    FnG P w K mg base CX0 9 f fd ["_law_word_here", "_law_size", "_law_number"] (spV K (mDef 3 5 (m_none K))) := by
  refine okGN F sc_law_is_none (fun vs H Q E h => spV_len h) (fun cdv A outer s H vs Q E hg hr h => ?_)
  have nd := sc_law_is_none.nd
  have cN : ∀ {n : Str}, ∀ u, RelV (.ref (He.ga K n)) u → u = .ref (He.ga K n) := fun u e => e
  have T0 : Takes (cxOf CX0 P w K mg base ["_law_word_here", "_law_size", "_law_number", "_law_caught", "error"] "_law_is_none" (defScope s_law_is_none) f cdv A outer s H E).nox (fun _ _ _ _ => False) := fun u s' ⟨_, _, _, _, _, _, _, _, _, _, _, _, _, _, _, _, z⟩ => z.elim
  refine ⟨_, pss_cons (ps_set (i := 3) nd rfl (Or.inl rfl) pe_non) (pss_cons (ps_try_keep (tb := fun W => tDrop (tCallS (spX K g_wound_at) (WE W) (tCons (tVar 0) (tCons (tVar 1) (tCons (tVar 2) tNil))))) (i := 4) (j := 3) rfl rfl rfl nd rfl rfl (by decide) rfl rfl ⟨by rfl, by decide, .inl Z.g1⟩ T0
      (fun W pn xe T _ => pss_one (ps_expr (pe_callSG x_wound_at hg hr (by decide) (by rfl) T (pa_cons (pv 0) (pa_cons (pv 1) (pa_cons (pv 2) pa_nil)))))))
    (pss_one (ps_ret (pe_and (pe_callB cr_isU (by rfl) B.isinstance (by decide +kernel) (pa_cons (pv 3) (pa_cons (pe_k (v := .ref (He.ga K "NoNumber")) (by rfl) ⟨_, Z.g2, rfl⟩) pa_nil)))
      (pe_one (pe_cmpR (op_eqK (K := K) rfl (hu64_of hr)) (pe_callB (call_reprD [] hg hr) (by rfl) B.repr (by decide +kernel) (pa_cons (pe_xk (pv 3)) pa_nil)) (pe_callB (call_reprD [] hg hr) (by rfl) B.repr (by decide +kernel) (pa_cons (pv 2) pa_nil)) (nomark _))))))), ?_⟩
  have hx : RefX K (fun W => tDrop (tCallS (spX K g_wound_at) (WE W) (tCons (tVar 0) (tCons (tVar 1) (tCons (tVar 2) tNil))))) x_try := refX_drop (refEX_call (ref_cons ref_var (ref_cons ref_var (ref_cons ref_var ref_nil))))
  have ht : RefTry K (fun W => tDrop (tCallS (spX K g_wound_at) (WE W) (tCons (tVar 0) (tCons (tVar 1) (tCons (tVar 2) tNil))))) (fun _ => none) x_tryN :=
    ⟨fun _ _ _ _ _ _ _ _ _ e _ => (by cases e), ⟨fun p H σ α A x α' W D R e q => hx.go p H σ α A x α' W D R (tryN_some e).1 q⟩⟩
  refine body_ok (b := m_none K) (ref_seq (ref_asg ref_non ref_gName) ⟨fun p H σ α A o D R e q => ?_⟩) (by decide) h
  unfold n_none at e
  split at e
  · rename_i x β hxy
    have hc := (tryN_some hxy).2
    obtain ⟨c, fs⟩ := x
    dsimp only at hc
    subst hc
    exact (ref_seq (ref_tryK ht (by decide) fun α x β z => by rw [(tryN_some z).2]; exact Z.ct)
      (ref_ret (ref_andV (ref_isX Z.ex cN Z.i1) (ref_op rr_eq (ref_cb rr_repr (ref_cons (ref_fld Z.xf Z.no) ref_nil)) (ref_cb rr_repr (ref_cons ref_var ref_nil)))))).go p H σ α A o D R e q
  · cases e
open Classical in
noncomputable def F_law_is_none : FV := fun as => match as with
  | [.d a, .d b, .d c] => if g_wound_at [a, b, c] = some ⟨"NoNumber", [("number", c)]⟩ ∧ (fRepr [c]).isSome = true then some (.one (.d (.bool true)), [.d a, .d b, .d c]) else none
  | _ => none
theorem none_eq {K : PySem.W.Frag} {as : List AV} {y : Rv × List AV} (h : F_law_is_none as = some y) : mDef 3 5 (m_none K) as = some y := by
  unfold F_law_is_none at h
  split at h
  · rename_i a b c
    split at h
    · rename_i hc
      obtain ⟨h1, h2⟩ := hc
      cases h
      obtain ⟨t, ht⟩ := Option.isSome_iff_exists.mp h2
      obtain ⟨z, rfl⟩ : ∃ z, t = .str z := by
        unfold fRepr at ht
        obtain ⟨q, _, q2⟩ := Option.bind_eq_some_iff.mp ht
        split at q2
        · cases q2; exact ⟨_, rfl⟩
        · cases q2
      have e1 : x_try [.d a, .d b, .d c, .d .none, .un] = some (⟨"NoNumber", [("number", c)]⟩, [.d a, .d b, .d c, .d .none, .un]) := by
        show (g_wound_at [a, b, c]).map _ = _
        rw [h1]; rfl
      have e2 : x_tryN [.d a, .d b, .d c, .d .none, .un] = some (⟨"NoNumber", [("number", c)]⟩, [.d a, .d b, .d c, .d .none, .un]) := by
        unfold x_tryN
        rw [e1, Option.bind_some]
        exact if_pos rfl
      have e3 : sTryK K 4 3 (fun _ => none) x_tryN [.d a, .d b, .d c, .d .none, .un] = some (.nx [.d a, .d b, .d c, .g (exG K ⟨"NoNumber", [("number", c)]⟩), .un]) := by
        unfold sTryK
        rw [e2]
        rfl
      have g4 : eIsX K 3 ⟨"NoNumber", [("number", c)]⟩ true [.d a, .d b, .d c, .g (exG K ⟨"NoNumber", [("number", c)]⟩), .un] = some (.d (.bool true), [.d a, .d b, .d c, .g (exG K ⟨"NoNumber", [("number", c)]⟩), .un]) := if_pos rfl
      have g5 : eFld K 3 ⟨"NoNumber", [("number", c)]⟩ "number" [.d a, .d b, .d c, .g (exG K ⟨"NoNumber", [("number", c)]⟩), .un] = some (.d c, [.d a, .d b, .d c, .g (exG K ⟨"NoNumber", [("number", c)]⟩), .un]) := if_pos rfl
      have r1 : eCB fRepr (aCons (eFld K 3 ⟨"NoNumber", [("number", c)]⟩ "number") aNil) [.d a, .d b, .d c, .g (exG K ⟨"NoNumber", [("number", c)]⟩), .un] = some (.d (.str z), [.d a, .d b, .d c, .g (exG K ⟨"NoNumber", [("number", c)]⟩), .un]) := by
        unfold eCB aCons
        rw [g5]
        show (fRepr [c]).bind _ = _
        rw [ht]; rfl
      have r2 : eCB fRepr (aCons (eV 2) aNil) [.d a, .d b, .d c, .g (exG K ⟨"NoNumber", [("number", c)]⟩), .un] = some (.d (.str z), [.d a, .d b, .d c, .g (exG K ⟨"NoNumber", [("number", c)]⟩), .un]) := by
        show (fRepr [c]).bind _ = _
        rw [ht]; rfl
      have r3 : eOp fEqS (eCB fRepr (aCons (eFld K 3 ⟨"NoNumber", [("number", c)]⟩ "number") aNil)) (eCB fRepr (aCons (eV 2) aNil)) [.d a, .d b, .d c, .g (exG K ⟨"NoNumber", [("number", c)]⟩), .un] = some (.d (.bool true), [.d a, .d b, .d c, .g (exG K ⟨"NoNumber", [("number", c)]⟩), .un]) := by
        unfold eOp
        rw [r1, Option.bind_some, r2, Option.bind_some]
        have q : fEqS (.str z) (.str z) = some (.bool true) := by rw [show fEqS (.str z) (.str z) = some (.bool (z == z)) from rfl, beq_self_eq_true]
        dsimp only [res]
        rw [Option.bind_some, Option.bind_some, q]
        rfl
      have e4 : m_rest K ⟨"NoNumber", [("number", c)]⟩ [.d a, .d b, .d c, .g (exG K ⟨"NoNumber", [("number", c)]⟩), .un] = some (.rt (.one (.d (.bool true))) [.d a, .d b, .d c, .g (exG K ⟨"NoNumber", [("number", c)]⟩), .un]) := by
        unfold m_rest sRet eAnd tOfE
        rw [g4]
        show ((eOp fEqS _ _ _).bind _) = _
        rw [r3]; rfl
      have e5 : n_none K [.d a, .d b, .d c, .d .none, .un] = some (.rt (.one (.d (.bool true))) [.d a, .d b, .d c, .g (exG K ⟨"NoNumber", [("number", c)]⟩), .un]) := by
        unfold n_none
        rw [e2]
        show sSeq _ _ _ = _
        unfold sSeq
        rw [e3]
        exact e4
      have e6 : m_none K (startA 5 [.d a, .d b, .d c]) = some (.rt (.one (.d (.bool true))) [.d a, .d b, .d c, .g (exG K ⟨"NoNumber", [("number", c)]⟩), .un]) := e5
      unfold mDef
      rw [if_pos (show [AV.d a, AV.d b, AV.d c].length = 3 from rfl), e6]
      rfl
    · cases h
  · cases h
theorem okF_law_is_none {P : Program} {w : World} {K : PySem.W.Frag} {mg : Str → Option Value} {base : Heap} {f : Addr} {fd : FuncData} (F : FnP K "_law_is_none" s_law_is_none f fd) (B : Bi mg) (Z : XF K mg)
    (x_wound_at : ClX P w K mg base 8 "wound_at" ["word", "size", "number"] (spX K g_wound_at)) :
    FnG P w K mg base CX0 9 f fd ["_law_word_here", "_law_size", "_law_number"] (spV K F_law_is_none) := by
  have G := okM_law_is_none F B Z x_wound_at
  have up : ∀ vs H Q E, spV K F_law_is_none vs H Q E → spV K (mDef 3 5 (m_none K)) vs H Q E := fun vs H Q E ⟨p, as, A, r, as', R, e, q⟩ => ⟨p, as, A, r, as', R, none_eq e, q⟩
  exact ⟨fun vs H Q E h => G.ar vs H Q E (up vs H Q E h), fun A outer s H args us vs Q E hg hr e0 bt r h => G.go A outer s H args us vs Q E hg hr e0 bt r (up vs H Q E h)⟩
end K04
namespace K04
open PySem PySem.Spec PyProof.Rows L2 Gk Vm Wo
def df_is_wound_2 : List Da := [.int 0]
theorem dfa_is_wound_2 : DfA [V.int 0] df_is_wound_2 := (.int .nil)
abbrev s_law_right : Stmt := topS 31
theorem sc_law_right : FnScope ["_law_word_here", "_law_names_here", "_law_size", "_law_level", "_law_row", "_law_spots", "_law_due", "_law_told", "_law_number"] ["_law_word_here", "_law_names_here"] (defScope s_law_right) := ⟨rfl, rfl, rfl, by decide +kernel, rfl, by decide +kernel, by decide +kernel⟩
noncomputable def m_law_right : MS := (sSeq (sForD (iEnL (aCons (eCall F_law_leveled [] (aCons (eV 0) (aCons (eV 1) (aCons (eC (.int 6)) aNil)))) aNil)) (gTupD 2 (gsCons (setD 2) (gsCons (setD 3) gsNil))) (sSeq (sAsg (eF (fLc (cmI (iAny (eV 3)) [4, 5] (gTupD 2 (gsCons (setD 4) (gsCons (setD 5) gsNil))) (tOfE (eOp (fIn false) (eCB fLenB (aCons (eV 0) aNil)) (eV 5))) (mLc (eV 4))))) (setD 6))
  (sSeq (sAsg (eF (fLc (cmI (iAny (eV 3)) [4, 5] (gTupD 2 (gsCons (setD 4) (gsCons (setD 5) gsNil))) tYesM (mLc (eCall F_is_wound df_is_wound_2 (aCons (eV 0) (aCons (eV 4) aNil))))))) (setD 7))
  (sSeq (sIf (tOfE (eOp fNeS (eCB fRepr (aCons (eV 7) aNil)) (eCB fRepr (aCons (eF (fLc (cmI (iAny (eV 3)) [4, 5] (gTupD 2 (gsCons (setD 4) (gsCons (setD 5) gsNil))) tYesM (mLc (eOp (fIn false) (eCB fLenB (aCons (eV 0) aNil)) (eV 5)))))) aNil)))) (sRet (eC (.bool false))) sNext)
  (sSeq (sIf (tOfE (eOp fNeS (eCB fRepr (aCons (eTup (aCons (eCall F_count_wound [] (aCons (eV 0) (aCons (eV 2) aNil))) (aCons (eCall F_wound_rows [] (aCons (eV 0) (aCons (eV 2) aNil))) aNil))) aNil)) (eCB fRepr (aCons (eTup (aCons (eCB fLenB (aCons (eV 6) aNil)) (aCons (eCB fTuple (aCons (eV 6) aNil)) aNil))) aNil)))) (sRet (eC (.bool false))) sNext)
  (sSeq (sIf (tOfE (eOp fNeS (eF (fLc (cmI (iRg1 (aCons (eCB fLenB (aCons (eV 6) aNil)) aNil)) [8] (setD 8) tYesM (mLc (eCall F_wound_at [] (aCons (eV 0) (aCons (eV 2) (aCons (eV 8) aNil)))))))) (eV 6))) (sRet (eC (.bool false))) sNext)
  (sIf (mOr (mNot (mTru (eCall F_law_is_none [] (aCons (eV 0) (aCons (eV 2) (aCons (eCB fLenB (aCons (eV 6) aNil)) aNil)))))) (mNot (mTru (eCall F_law_is_none [] (aCons (eV 0) (aCons (eV 2) (aCons (eUn fNeg (eC (.int 1))) aNil))))))) (sRet (eC (.bool false))) sNext)))))))
  (sRet (eC (.bool true))))
noncomputable def F_law_right : FV := mDef 2 9 m_law_right
theorem ok_law_right {P : Program} {w : World} {K : PySem.W.Frag} {mg : Str → Option Value} {base : Heap} {f : Addr} {fd : FuncData} (F : FnP K "_law_right" s_law_right f fd) (B : Bi mg) (c_law_leveled : ClG P w K mg base 3 "_law_leveled" ["_law_word_here", "_law_names_here", "_law_most"] (spV K F_law_leveled)) (c_law_is_none : ClG P w K mg base 9 "_law_is_none" ["_law_word_here", "_law_size", "_law_number"] (spV K F_law_is_none)) (c_wound_at : ClG P w K mg base 8 "wound_at" ["word", "size", "number"] (spV K F_wound_at)) (c_wound_rows : ClG P w K mg base 8 "wound_rows" ["word", "size"] (spV K F_wound_rows)) (c_count_wound : ClG P w K mg base 8 "count_wound" ["word", "size"] (spV K F_count_wound)) (d_is_wound_2 : ClDG P w K mg base 8 "is_wound" ["word", "row", "place"] (spV K F_is_wound) [(V.int 0)]) :
    FnG P w K mg base CX0 10 f fd ["_law_word_here", "_law_names_here"] (spV K F_law_right) := by
  refine okGN F sc_law_right (fun vs H Q E h => spV_len h) (fun cdv A outer s H vs Q E hg hr h => ?_)
  exact ⟨_, (pss_cons (ps_for PassesOwn.never rfl (pi_enum (by rfl) B.enumerate (pa_cons (pe_clG c_law_leveled hg hr (by decide) (by rfl) (pa_cons (pv 0) (pa_cons (pv 1) (pa_cons pe_int pa_nil)))) pa_nil)) (pg_tup rfl (pgs_cons (pg_name (i := 2) sc_law_right.nd rfl (Or.inr rfl)) (pgs_cons (pg_name (i := 3) sc_law_right.nd rfl (Or.inl rfl)) pgs_nil))) (pss_cons (ps_setLc (i := 6) (own := [("_law_row", 4), ("_law_spots", 5)]) (g := (gTup K 2 (gCons (gName 4) (gCons (gName 5) gNil)))) (by rfl) sc_law_right.nd rfl rfl (sw_true rfl rfl rfl (by decide +kernel)) (pi_any (K := K) rfl (pv 3)) (blkOk_by (own := [("_law_row", 4), ("_law_spots", 5)]) (N := ["_law_word_here", "_law_names_here", "_law_size", "_law_level", "_law_row", "_law_spots", "_law_due", "_law_told", "_law_number"]) (sc := defScope s_law_right) (by decide +kernel)) (fun _ _ _ _ _ => (pg_tup rfl (pgs_cons (pg_name (i := 4) sc_law_right.nd rfl (Or.inl rfl)) (pgs_cons (pg_name (i := 5) sc_law_right.nd rfl (Or.inl rfl)) pgs_nil)))) (fun _ _ _ _ _ => (pts_one (pt_orT (pt_cmpR (op_inA (K := K) rfl (hu65_of hr)) (pe_callB len_all (by rfl) B.len (by decide +kernel) (pa_cons (pv 0) pa_nil)) (pv 5) rfl) (pt_cmp (pc_din (hu_of hr) (pe_callB len_all (by rfl) B.len (by decide +kernel) (pa_cons (pv 0) pa_nil)) (pv 5)))))) (fun _ _ _ _ _ => (pv 4)))
      (pss_cons (ps_setLc (i := 7) (own := [("_law_row", 4), ("_law_spots", 5)]) (g := (gTup K 2 (gCons (gName 4) (gCons (gName 5) gNil)))) (tt := tYes) (by rfl) sc_law_right.nd rfl rfl (sw_true rfl rfl rfl (by decide +kernel)) (pi_any (K := K) rfl (pv 3)) (blkOk_by (own := [("_law_row", 4), ("_law_spots", 5)]) (N := ["_law_word_here", "_law_names_here", "_law_size", "_law_level", "_law_row", "_law_spots", "_law_due", "_law_told", "_law_number"]) (sc := defScope s_law_right) (by decide +kernel)) (fun _ _ _ _ _ => (pg_tup rfl (pgs_cons (pg_name (i := 4) sc_law_right.nd rfl (Or.inl rfl)) (pgs_cons (pg_name (i := 5) sc_law_right.nd rfl (Or.inl rfl)) pgs_nil)))) (fun _ _ _ _ _ => pts_nil) (fun _ _ _ _ _ => (pe_clDG d_is_wound_2 hg hr (by decide) (by rfl) (pa_cons (pv 0) (pa_cons (pv 4) pa_nil)))))
      (pss_cons (ps_if (pt_cmpR (op_neK (K := K) rfl (hu64_of hr)) (pe_callB (call_reprD [] hg hr) (by rfl) B.repr (by decide +kernel) (pa_cons (pv 7) pa_nil)) (pe_callB (call_reprD [] hg hr) (by rfl) B.repr (by decide +kernel) (pa_cons (pe_lc (own := [("_law_row", 4), ("_law_spots", 5)]) (g := (gTup K 2 (gCons (gName 4) (gCons (gName 5) gNil)))) (tt := tYes) rfl sc_law_right.nd (pi_any (K := K) rfl (pv 3)) (blkOk_by (own := [("_law_row", 4), ("_law_spots", 5)]) (N := ["_law_word_here", "_law_names_here", "_law_size", "_law_level", "_law_row", "_law_spots", "_law_due", "_law_told", "_law_number"]) (sc := defScope s_law_right) (by decide +kernel)) (fun _ _ _ _ _ => (pg_tup rfl (pgs_cons (pg_name (i := 4) sc_law_right.nd rfl (Or.inl rfl)) (pgs_cons (pg_name (i := 5) sc_law_right.nd rfl (Or.inl rfl)) pgs_nil)))) (fun _ _ _ _ _ => pts_nil) (fun _ _ _ _ _ => (pe_orE (pe_cmpR (op_inA (K := K) rfl (hu65_of hr)) (pe_callB len_all (by rfl) B.len (by decide +kernel) (pa_cons (pv 0) pa_nil)) (pv 5) rfl) (pe_cmp (pc_din (hu_of hr) (pe_callB len_all (by rfl) B.len (by decide +kernel) (pa_cons (pv 0) pa_nil)) (pv 5)))))) pa_nil)) (nomark _)) (pss_one (ps_ret pe_bl)) pss_nil)
      (pss_cons (ps_if (pt_cmpR (op_neK (K := K) rfl (hu64_of hr)) (pe_callB (call_reprD [] hg hr) (by rfl) B.repr (by decide +kernel) (pa_cons (pe_tup (pa_cons (pe_clG c_count_wound hg hr (by decide) (by rfl) (pa_cons (pv 0) (pa_cons (pv 2) pa_nil))) (pa_cons (pe_clG c_wound_rows hg hr (by decide) (by rfl) (pa_cons (pv 0) (pa_cons (pv 2) pa_nil))) pa_nil))) pa_nil)) (pe_callB (call_reprD [] hg hr) (by rfl) B.repr (by decide +kernel) (pa_cons (pe_tup (pa_cons (pe_callB len_all (by rfl) B.len (by decide +kernel) (pa_cons (pv 6) pa_nil)) (pa_cons (pe_callTy tuple_any (by rfl) B.tuple (by decide +kernel) (pa_cons (pv 6) pa_nil)) pa_nil))) pa_nil)) (nomark _)) (pss_one (ps_ret pe_bl)) pss_nil)
      (pss_cons (ps_if (pt_cmpR (op_neK (K := K) rfl (hu64_of hr)) (pe_lc (own := [("_law_number", 8)]) (g := (gName 8)) (tt := tYes) rfl sc_law_right.nd (pi_range1 (by rfl) B.range (pa_cons (pe_callB len_all (by rfl) B.len (by decide +kernel) (pa_cons (pv 6) pa_nil)) pa_nil)) (blkOk_by (own := [("_law_number", 8)]) (N := ["_law_word_here", "_law_names_here", "_law_size", "_law_level", "_law_row", "_law_spots", "_law_due", "_law_told", "_law_number"]) (sc := defScope s_law_right) (by decide +kernel)) (fun _ _ _ _ _ => (pg_name (i := 8) sc_law_right.nd rfl (Or.inl rfl))) (fun _ _ _ _ _ => pts_nil) (fun _ _ _ _ _ => (pe_clG c_wound_at hg hr (by decide) (by rfl) (pa_cons (pv 0) (pa_cons (pv 2) (pa_cons (pv 8) pa_nil)))))) (pv 6) (nomark _)) (pss_one (ps_ret pe_bl)) pss_nil)
      (pss_one (ps_if ((pw_or (pt_not (pt_tru (pe_clG c_law_is_none hg hr (by decide) (by rfl) (pa_cons (pv 0) (pa_cons (pv 2) (pa_cons (pe_callB len_all (by rfl) B.len (by decide +kernel) (pa_cons (pv 6) pa_nil)) pa_nil)))))) (pw_or1 (pt_not (pt_tru (pe_clG c_law_is_none hg hr (by decide) (by rfl) (pa_cons (pv 0) (pa_cons (pv 2) (pa_cons (pe_un un_neg pe_int) pa_nil))))))))).pt (pss_one (ps_ret pe_bl)) pss_nil))))))))
      (pss_one (ps_ret pe_bl))), body_ok ((ref_seq (ref_for (ref_iEnL (ref_cons (ref_call .nil (ref_cons ref_var (ref_cons ref_var (ref_cons ref_int ref_nil)))) ref_nil)) (ref_gTup (ref_gCons ref_gName (ref_gCons ref_gName ref_gNil))) (ref_seq (ref_asg (ref_F (ref_lc (ref_iAny ref_var) (ref_bTup (ref_bCons (ref_bName (by decide)) (ref_bCons (ref_bName (by decide)) ref_bNil))) (ref_testOr (ref_in_ rfl (ref_cb rr_lenB (ref_cons ref_var ref_nil)) ref_var)) ref_var)) ref_gName)
      (ref_seq (ref_asg (ref_F (ref_lc (ref_iAny ref_var) (ref_bTup (ref_bCons (ref_bName (by decide)) (ref_bCons (ref_bName (by decide)) ref_bNil))) ref_yes (ref_call dfa_is_wound_2 (ref_cons ref_var (ref_cons ref_var ref_nil))))) ref_gName)
      (ref_seq (ref_ifS (ref_test (ref_op rr_ne (ref_cb rr_repr (ref_cons ref_var ref_nil)) (ref_cb rr_repr (ref_cons (ref_F (ref_lc (ref_iAny ref_var) (ref_bTup (ref_bCons (ref_bName (by decide)) (ref_bCons (ref_bName (by decide)) ref_bNil))) ref_yes (ref_in_ rfl (ref_cb rr_lenB (ref_cons ref_var ref_nil)) ref_var))) ref_nil)))) (ref_ret ref_bl) ref_next)
      (ref_seq (ref_ifS (ref_test (ref_op rr_ne (ref_cb rr_repr (ref_cons (ref_tup (ref_cons (ref_call .nil (ref_cons ref_var (ref_cons ref_var ref_nil))) (ref_cons (ref_call .nil (ref_cons ref_var (ref_cons ref_var ref_nil))) ref_nil))) ref_nil)) (ref_cb rr_repr (ref_cons (ref_tup (ref_cons (ref_cb rr_lenB (ref_cons ref_var ref_nil)) (ref_cons (ref_cb rr_tuple (ref_cons ref_var ref_nil)) ref_nil))) ref_nil)))) (ref_ret ref_bl) ref_next)
      (ref_seq (ref_ifS (ref_test (ref_op rr_ne (ref_F (ref_lc (ref_iRg1 (ref_cons (ref_cb rr_lenB (ref_cons ref_var ref_nil)) ref_nil)) (ref_bName (by decide)) ref_yes (ref_call .nil (ref_cons ref_var (ref_cons ref_var (ref_cons ref_var ref_nil)))))) ref_var)) (ref_ret ref_bl) ref_next)
      (ref_ifS (ref_or (ref_not (ref_tru (ref_call .nil (ref_cons ref_var (ref_cons ref_var (ref_cons (ref_cb rr_lenB (ref_cons ref_var ref_nil)) ref_nil)))))) (ref_not (ref_tru (ref_call .nil (ref_cons ref_var (ref_cons ref_var (ref_cons (ref_un rr_neg ref_int) ref_nil))))))) (ref_ret ref_bl) ref_next)))))))
      (ref_ret ref_bl))) (by decide) h⟩
abbrev s_law : Stmt := topS 32
theorem sc_law : FnScope ["_law_script", "_law_k", "_law_pot_here", "_law_names_here", "_law_word_here"] ["_law_script"] (defScope s_law) := ⟨rfl, rfl, rfl, by decide +kernel, rfl, by decide +kernel, by decide +kernel⟩
noncomputable def m_law : MS := (sSeq (sForD (iRg1 (aCons (eCB fMax (aCons (eC (.int 1)) (aCons (eCB fMin (aCons (eC (.int 2)) (aCons (eScLen 0) aNil))) aNil))) aNil)) (setD 1) (sSeq (sAsgR 2 (fCall F_law_pot [] (aCons (eV 0) (aCons (eV 1) aNil))))
  (sSeq (sAsg (eCall F_law_names [] (aCons (eV 2) (aCons (eOp fAdd (eC (.int 1)) (eCall F_law_take [] (aCons (eV 2) (aCons (eC (.int 3)) aNil)))) aNil))) (setD 3))
  (sSeq (sAsg (eCall F_law_word [] (aCons (eV 2) (aCons (eV 3) (aCons (eC (.int 6)) aNil)))) (setD 4))
  (sIf (mNot (mTru (eCall F_law_right [] (aCons (eV 4) (aCons (eF (fSortM (aCons (eOp fAdd (eV 3) (eOp fRep (eF (fLst (aCons (eC (.str (Str.ofString "qq"))) aNil))) (eCB fInt (aCons (eAnd (eOp fLtA (eCB fLenB (aCons (eV 3) aNil)) (eC (.int 3))) (eOp (fIn true) (eC (.str (Str.ofString "qq"))) (eV 3))) aNil)))) aNil))) aNil))))) (sRet (eC (.bool false))) sNext)))))
  (sRet (eC (.bool true))))
noncomputable def F_law : FV := mDef 1 5 m_law
theorem ok_law {P : Program} {w : World} {K : PySem.W.Frag} {mg : Str → Option Value} {base : Heap} {f : Addr} {fd : FuncData} (F : FnP K "law" s_law f fd) (B : Bi mg) (c_law_right : ClG P w K mg base 10 "_law_right" ["_law_word_here", "_law_names_here"] (spV K F_law_right)) (c_law_word : ClG P w K mg base 3 "_law_word" ["_law_pot_here", "_law_names_here", "_law_most"] (spV K F_law_word)) (c_law_names : ClG P w K mg base 3 "_law_names" ["_law_pot_here", "_law_many"] (spV K F_law_names)) (c_law_take : ClG P w K mg base 1 "_law_take" ["_law_pot_here", "_law_upto"] (spV K F_law_take)) (c_law_pot : ClG P w K mg base 1 "_law_pot" ["_law_script", "_law_k"] (spV K F_law_pot)) :
    FnG P w K mg base CX0 11 f fd ["_law_script"] (spV K F_law) := by
  refine okGN F sc_law (fun vs H Q E h => spV_len h) (fun cdv A outer s H vs Q E hg hr h => ?_)
  exact ⟨_, (pss_cons (ps_for PassesOwn.never rfl (pi_range1 (by rfl) B.range (pa_cons (pe_callB (Vm.cr_max rfl) (by rfl) B.max (by decide +kernel) (pa_cons pe_int (pa_cons (pe_callB (Vm.cr_min rfl) (by rfl) B.min (by decide +kernel) (pa_cons pe_int (pa_cons (pe_callB (len_L (K := K) rfl) (by rfl) B.len (by decide +kernel) (pa_cons (pv 0) pa_nil)) pa_nil))) pa_nil))) pa_nil)) (pg_name (i := 1) sc_law.nd rfl (Or.inl rfl)) (pss_cons (ps_set (i := 2) sc_law.nd rfl (Or.inl rfl) (pe_clG c_law_pot hg hr (by decide) (by rfl) (pa_cons (pv 0) (pa_cons (pv 1) pa_nil))))
      (pss_cons (ps_set (i := 3) sc_law.nd rfl (Or.inl rfl) (pe_clG c_law_names hg hr (by decide) (by rfl) (pa_cons (pv 2) (pa_cons (pe_op op_addA pe_int (pe_clG c_law_take hg hr (by decide) (by rfl) (pa_cons (pv 2) (pa_cons pe_int pa_nil)))) pa_nil))))
      (pss_cons (ps_set (i := 4) sc_law.nd rfl (Or.inl rfl) (pe_clG c_law_word hg hr (by decide) (by rfl) (pa_cons (pv 2) (pa_cons (pv 3) (pa_cons pe_int pa_nil)))))
      (pss_one (ps_if (pt_not (pt_tru (pe_clG c_law_right hg hr (by decide) (by rfl) (pa_cons (pv 4) (pa_cons (pe_callB (cr_sortD (K := K) rfl (hu70_of hr)) (by rfl) B.sorted (by decide +kernel) (pa_cons (pe_op op_addA (pv 3) (pe_op op_rep (pe_lst (pa_cons pe_str pa_nil)) (pe_callTy cr_int (by rfl) B.int (by decide +kernel) (pa_cons (pe_and (pe_cmpR (op_ltA (K := K) rfl (hu70_of hr)) (pe_callB len_all (by rfl) B.len (by decide +kernel) (pa_cons (pv 3) pa_nil)) pe_int (nomark _)) (pe_one (pe_orE (pe_cmpR (op_notInA (K := K) rfl (hu65_of hr)) pe_str (pv 3) rfl) (pe_cmp (pc_dnotin (hu_of hr) pe_str (pv 3)))))) pa_nil)))) pa_nil)) pa_nil))))) (pss_one (ps_ret pe_bl)) pss_nil))))))
      (pss_one (ps_ret pe_bl))), body_ok ((ref_seq (ref_for (ref_iRg1 (ref_cons (ref_cb rr_max (ref_cons ref_int (ref_cons (ref_cb rr_min (ref_cons ref_int (ref_cons ref_scLen ref_nil))) ref_nil))) ref_nil)) ref_gName (ref_seq (ref_asgR (ref_fCall .nil (ref_cons ref_var (ref_cons ref_var ref_nil))))
      (ref_seq (ref_asg (ref_call .nil (ref_cons ref_var (ref_cons (ref_op rr_add ref_int (ref_call .nil (ref_cons ref_var (ref_cons ref_int ref_nil)))) ref_nil))) ref_gName)
      (ref_seq (ref_asg (ref_call .nil (ref_cons ref_var (ref_cons ref_var (ref_cons ref_int ref_nil)))) ref_gName)
      (ref_ifS (ref_not (ref_tru (ref_call .nil (ref_cons ref_var (ref_cons (ref_F (ref_fSort (ref_cons (ref_op rr_add ref_var (ref_op rr_rep (ref_F (ref_fLst (ref_cons (ref_str (by decide +kernel)) ref_nil))) (ref_cb rr_int (ref_cons (ref_andV (ref_op rr_ltA (ref_cb rr_lenB (ref_cons ref_var ref_nil)) ref_int) (ref_in_ rfl (ref_str (by decide +kernel)) ref_var)) ref_nil)))) ref_nil))) ref_nil))))) (ref_ret ref_bl) ref_next)))))
      (ref_ret ref_bl))) (by decide) h⟩
end K04
namespace Vm
open PySem PySem.Spec PyProof.Rows L2 Gk Wo
end Vm
namespace Vm
open PySem PySem.Spec PyProof.Rows L2 Gk
end Vm
namespace Vm
open PySem PySem.Spec PyProof.Rows L2 Gk
end Vm
namespace K04
open PySem PySem.Spec PyProof.Rows L2 Gk Vm Wo
noncomputable def u_is_wound (word : Da) (row : Da) (place : Da) : Option (Da) :=
 (uC F_check_place [AV.d word, AV.d place]).bind fun e =>
 (uC F_greatest_steps [AV.d word]).bind fun steps =>
 (iterU row).bind fun xs =>
 (forE (ρ := Da) (fun name (greatest : Da) =>
 (fSubs steps greatest).bind fun e_2 =>
 ((fIn true) name e_2).bind fun e_3 =>
 (asB e_3).bind fun t =>
 cond t (some (.rt (Da.bool false))) ((fSubs steps greatest).bind fun e_4 =>
 (fSubs e_4 name).bind fun greatest_1 =>
 some (.nx greatest_1))) xs place).bind fun o_ =>
 lpK o_ fun (greatest_2 : Da) =>
 (fLenB [word]).bind fun e_6 =>
 (fEqS greatest_2 e_6).bind fun e_7 =>
 some e_7
theorem tx_is_wound {word row place r : Da} (h : u_is_wound word row place = some r) : F_is_wound [AV.d word, AV.d row, AV.d place] = some (.one (.d r), [AV.d word, AV.d row, AV.d place]) := by
  unfold u_is_wound at h
  refine def_u rfl ?_
  show Wp (m_is_wound [AV.d word, AV.d row, AV.d place, .un, .un, .un]) _
  unfold m_is_wound
  replace h := bse h; obtain ⟨e, h_e, h⟩ := h
  refine wseq (drop_u (call_u (asv := [AV.d word, AV.d place]) (acons_go rfl (acons_go rfl rfl)) rfl rfl h_e)) ?_
  show Wp ((_ : MS) [AV.d word, AV.d row, AV.d place, .un, .un, .un]) _
  replace h := bse h; obtain ⟨steps, h_steps, h⟩ := h
  refine wseq (asg_u (call_u (asv := [AV.d word]) (acons_go rfl rfl) rfl rfl h_steps) rfl (setD_go rfl rfl)) ?_
  show Wp ((_ : MS) [AV.d word, AV.d row, AV.d place, AV.d steps, .un, .un]) _
  refine wseq (asg_u rfl rfl (setD_go rfl rfl)) ?_
  show Wp ((_ : MS) [AV.d word, AV.d row, AV.d place, AV.d steps, AV.d place, .un]) _
  replace h := bse h; obtain ⟨xs, h_xs, h⟩ := h
  replace h := bse h; obtain ⟨o_, hS, h⟩ := h
  refine seq_for_e (fun (s : Da) (i : Option Da) => [AV.d word, AV.d row, AV.d place, AV.d steps, AV.d s, sl i]) (fun r o => Qr (.one (.d r)) [AV.d word, AV.d row, AV.d place] [AV.d word, AV.d row, AV.d place] o) none (iany_u rfl rfl h_xs) rfl hS ?_ ?_ ?_
  · clear h hS
    intro name greatest i_ o' h
    try dsimp only at h
    refine wg (setD_go rfl (sl_fix _)) ?_
    show Wp ((_ : MS) [AV.d word, AV.d row, AV.d place, AV.d steps, AV.d greatest, AV.d name]) _
    replace h := bse h; obtain ⟨e_2, h_e_2, h⟩ := h
    replace h := bse h; obtain ⟨e_3, h_e_3, h⟩ := h
    replace h := bse h; obtain ⟨t, h_t, h⟩ := h
    replace h := csp h; rcases h with ⟨hb, h⟩ | ⟨hb, h⟩
    · refine wsif_t (tofe_u (eop_go rfl (eop_go rfl rfl rfl rfl h_e_2) rfl rfl h_e_3) rfl h_t) hb (wseq_x ?_)
      replace h := Option.some.inj h; subst h
      exact wret rfl ⟨(fun _ z => by cases z), ⟨⟨_, _, rfl⟩, qr_one rfl rfl⟩⟩
    · refine wsif_f (tofe_u (eop_go rfl (eop_go rfl rfl rfl rfl h_e_2) rfl rfl h_e_3) rfl h_t) hb ?_
      refine wseq_next ?_
      replace h := bse h; obtain ⟨e_4, h_e_4, h⟩ := h
      replace h := bse h; obtain ⟨greatest_1, h_greatest_1, h⟩ := h
      replace h := Option.some.inj h; subst h
      exact wlast (asg_u (eop_go (eop_go rfl rfl rfl rfl h_e_4) rfl rfl rfl h_greatest_1) rfl (setD_go rfl rfl)) ⟨(some name), Or.inl rfl⟩
  · intro s hk i
    replace h := lpK_go hk h
    generalize s = greatest_2 at *
    generalize i = i__1 at *
    try dsimp only at h
    show Wp ((_ : MS) [AV.d word, AV.d row, AV.d place, AV.d steps, AV.d greatest_2, sl i__1]) _
    replace h := bse h; obtain ⟨e_6, h_e_6, h⟩ := h
    replace h := bse h; obtain ⟨e_7, h_e_7, h⟩ := h
    replace h := Option.some.inj h; subst h
    exact wret (eop_go rfl (cb_u (acons_go rfl rfl) (rc rfl rfl) h_e_6) rfl rfl h_e_7) (qr_one rfl rfl)
  · intro r hk o ho hq
    subst hk
    change some _ = some _ at h
    replace h := Option.some.inj h; subst h
    exact hq
noncomputable def u_first_step (leads : Da) (ends : Da) (number : Da) : Option (Da) :=
 (itemsOf leads).bind fun xs =>
 (forE (ρ := Da) (fun q (ahead : Da) =>
 (un2 q).bind fun (name, to) =>
 (fSubs ends to).bind fun e =>
 (fLtA ahead e).bind fun e_1 =>
 (asB e_1).bind fun t =>
 cond t (some (.rt (Da.tuple [name, to, ahead]))) ((fSubs ends to).bind fun e_2 =>
 (fSub ahead e_2).bind fun ahead_1 =>
 some (.nx ahead_1))) xs number).bind fun o_ =>
 lpK o_ fun (ahead_2 : Da) =>
 some Da.none
theorem tx_first_step {leads ends number r : Da} (h : u_first_step leads ends number = some r) : F_first_step [AV.d leads, AV.d ends, AV.d number] = some (.one (.d r), [AV.d leads, AV.d ends, AV.d number]) := by
  unfold u_first_step at h
  refine def_u rfl ?_
  show Wp (m_first_step [AV.d leads, AV.d ends, AV.d number, .un, .un, .un]) _
  unfold m_first_step
  refine wseq (asg_u rfl rfl (setD_go rfl rfl)) ?_
  show Wp ((_ : MS) [AV.d leads, AV.d ends, AV.d number, AV.d number, .un, .un]) _
  replace h := bse h; obtain ⟨xs, h_xs, h⟩ := h
  replace h := bse h; obtain ⟨o_, hS, h⟩ := h
  refine seq_for_e (fun (s : Da) (i : Option Da × Option Da) => [AV.d leads, AV.d ends, AV.d number, AV.d s, sl i.1, sl i.2]) (fun r o => Qr (.one (.d r)) [AV.d leads, AV.d ends, AV.d number] [AV.d leads, AV.d ends, AV.d number] o) (none, none) (iitm_u rfl rfl h_xs) rfl hS ?_ ?_ ?_
  · clear h hS
    intro q ahead i o' h
    obtain ⟨i_, i__1⟩ := i
    try dsimp only at h
    replace h := bse h; obtain ⟨⟨name, to⟩, h_u, h⟩ := h
    try dsimp only at h
    refine wg (gt2_u h_u (gs_c (setD_go rfl (sl_fix _)) (gs_c (setD_go rfl (sl_fix _)) gs_n))) ?_
    show Wp ((_ : MS) [AV.d leads, AV.d ends, AV.d number, AV.d ahead, AV.d name, AV.d to]) _
    replace h := bse h; obtain ⟨e, h_e, h⟩ := h
    replace h := bse h; obtain ⟨e_1, h_e_1, h⟩ := h
    replace h := bse h; obtain ⟨t, h_t, h⟩ := h
    replace h := csp h; rcases h with ⟨hb, h⟩ | ⟨hb, h⟩
    · refine wsif_t (tofe_u (eop_go rfl (eop_go rfl rfl rfl rfl h_e) rfl rfl h_e_1) rfl h_t) hb (wseq_x ?_)
      replace h := Option.some.inj h; subst h
      exact wret (tupN_go (acons_go rfl (acons_go rfl (acons_go rfl rfl))) (oc rfl (oc rfl (oc rfl rfl))) (Nat.le_of_ble_eq_true rfl)) ⟨(fun _ z => by cases z), ⟨⟨_, _, rfl⟩, qr_one rfl rfl⟩⟩
    · refine wsif_f (tofe_u (eop_go rfl (eop_go rfl rfl rfl rfl h_e) rfl rfl h_e_1) rfl h_t) hb ?_
      refine wseq_next ?_
      replace h := bse h; obtain ⟨e_2, h_e_2, h⟩ := h
      replace h := bse h; obtain ⟨ahead_1, h_ahead_1, h⟩ := h
      replace h := Option.some.inj h; subst h
      exact wlast (aug_u rfl (eop_go rfl rfl rfl rfl h_e_2) rfl h_ahead_1 (setD_go rfl rfl)) ⟨((some name), (some to)), Or.inl rfl⟩
  · intro s hk i
    replace h := lpK_go hk h
    generalize s = ahead_2 at *
    obtain ⟨i__2, i__3⟩ := i
    try dsimp only at h
    show Wp ((_ : MS) [AV.d leads, AV.d ends, AV.d number, AV.d ahead_2, sl i__2, sl i__3]) _
    replace h := Option.some.inj h; subst h
    exact wret rfl (qr_one rfl rfl)
  · intro r hk o ho hq
    subst hk
    change some _ = some _ at h
    replace h := Option.some.inj h; subst h
    exact hq
noncomputable def u_wound_at (word : Da) (size : Da) (number : Da) : Option (Da) :=
 (uC F_greatest_steps [AV.d word]).bind fun steps =>
 (uC F_count_ends [AV.d steps, AV.d size]).bind fun counts =>
 (uC F_is_whole [AV.d number]).bind fun e_2 =>
 (cond (!(truD e_2)) (some true) ((fNeg (Da.int 1)).bind fun e_3 =>
 (fSubs counts e_3).bind fun e_4 =>
 (fSubs e_4 (Da.int 0)).bind fun e_5 =>
 (chainU fLe fLt (Da.int 0) number e_5).bind fun e_6 =>
 (asB e_6).bind fun t =>
 some (!t))).bind fun t_1 =>
 cond t_1 (none) ((some (Da.int 0)).bind fun place =>
 (fNeg (Da.int 1)).bind fun e_7 =>
 (asI e_7).bind fun i_ =>
 (fSl none (some i_) counts).bind fun e_8 =>
 (revU e_8).bind fun xs =>
 (forU (fun ends (row_1, place_1, left) =>
 (fSubs steps place_1).bind fun e_9 =>
 (uC F_first_step [AV.d e_9, AV.d ends, AV.d left]).bind fun e_10 =>
 (un3 e_10).bind fun (name, place_2, left_1) =>
 (appU row_1 name).bind fun row_2 =>
 some (row_2, place_2, left_1)) xs ((Da.list []), place, number)).bind fun (row_3, place_3, left_2) =>
 (fTuple [row_3]).bind fun e_11 =>
 some e_11)
theorem tx_wound_at {word size number r : Da} (h : u_wound_at word size number = some r) : F_wound_at [AV.d word, AV.d size, AV.d number] = some (.one (.d r), [AV.d word, AV.d size, AV.d number]) := by
  unfold u_wound_at at h
  refine def_u rfl ?_
  show Wp (m_wound_at [AV.d word, AV.d size, AV.d number, .un, .un, .un, .un, .un, .un, .un]) _
  unfold m_wound_at
  replace h := bse h; obtain ⟨steps, h_steps, h⟩ := h
  refine wseq (asg_u (call_u (asv := [AV.d word]) (acons_go rfl rfl) rfl rfl h_steps) rfl (setD_go rfl rfl)) ?_
  show Wp ((_ : MS) [AV.d word, AV.d size, AV.d number, AV.d steps, .un, .un, .un, .un, .un, .un]) _
  replace h := bse h; obtain ⟨counts, h_counts, h⟩ := h
  refine wseq (asg_u (call_u (asv := [AV.d steps, AV.d size]) (acons_go rfl (acons_go rfl rfl)) rfl rfl h_counts) rfl (setD_go rfl rfl)) ?_
  show Wp ((_ : MS) [AV.d word, AV.d size, AV.d number, AV.d steps, AV.d counts, .un, .un, .un, .un, .un]) _
  replace h := bse h; obtain ⟨e_2, h_e_2, h⟩ := h
  replace h := bse h; obtain ⟨t_1, h_t_1, h⟩ := h
  replace h := csp h; rcases h with ⟨hb, h⟩ | ⟨hb, h⟩
  · refine wsif_t (mor_b (mnot_go (tru_u (call_u (asv := [AV.d number]) (acons_go rfl rfl) rfl rfl h_e_2) rfl)) (fun _ x h => by replace h := bse h; obtain ⟨e_3, h_e_3, h⟩ := h; replace h := bse h; obtain ⟨e_4, h_e_4, h⟩ := h; replace h := bse h; obtain ⟨e_5, h_e_5, h⟩ := h; replace h := bse h; obtain ⟨e_6, h_e_6, h⟩ := h; replace h := bse h; obtain ⟨t, h_t, h⟩ := h; replace h := Option.some.inj h; subst h; exact (mnot_go (tofe_u (chain_u rfl rfl (eop_go (eop_go rfl (un_u rfl rfl h_e_3) rfl rfl h_e_4) rfl rfl rfl h_e_5) rfl rfl rfl h_e_6) rfl h_t))) h_t_1) hb (wseq_x ?_)
    cases h
  · refine wsif_f (mor_b (mnot_go (tru_u (call_u (asv := [AV.d number]) (acons_go rfl rfl) rfl rfl h_e_2) rfl)) (fun _ x h => by replace h := bse h; obtain ⟨e_3, h_e_3, h⟩ := h; replace h := bse h; obtain ⟨e_4, h_e_4, h⟩ := h; replace h := bse h; obtain ⟨e_5, h_e_5, h⟩ := h; replace h := bse h; obtain ⟨e_6, h_e_6, h⟩ := h; replace h := bse h; obtain ⟨t, h_t, h⟩ := h; replace h := Option.some.inj h; subst h; exact (mnot_go (tofe_u (chain_u rfl rfl (eop_go (eop_go rfl (un_u rfl rfl h_e_3) rfl rfl h_e_4) rfl rfl rfl h_e_5) rfl rfl rfl h_e_6) rfl h_t))) h_t_1) hb ?_
    refine wseq_next ?_
    refine wseq (asgR_u (flst_u rfl rfl (Nat.le_of_ble_eq_true rfl)) rfl rfl) ?_
    show Wp ((_ : MS) [AV.d word, AV.d size, AV.d number, AV.d steps, AV.d counts, AV.r false false (Da.list []), .un, .un, .un, .un]) _
    replace h := bse h; obtain ⟨place, h_place, h⟩ := h
    replace h_place := Option.some.inj h_place
    refine wseq (asg_u2 h_place rfl rfl (setD_go rfl rfl)) ?_
    show Wp ((_ : MS) [AV.d word, AV.d size, AV.d number, AV.d steps, AV.d counts, AV.r false false (Da.list []), AV.d place, .un, .un, .un]) _
    refine wseq (asg_u rfl rfl (setD_go rfl rfl)) ?_
    show Wp ((_ : MS) [AV.d word, AV.d size, AV.d number, AV.d steps, AV.d counts, AV.r false false (Da.list []), AV.d place, AV.d number, .un, .un]) _
    replace h := bse h; obtain ⟨e_7, h_e_7, h⟩ := h
    replace h := bse h; obtain ⟨i_, h_i_, h⟩ := h
    replace h := bse h; obtain ⟨e_8, h_e_8, h⟩ := h
    replace h := bse h; obtain ⟨xs, h_xs, h⟩ := h
    replace h := bse h; obtain ⟨⟨row_3, place_3, left_2⟩, hS, h⟩ := h
    try dsimp only at h
    refine wseq_j (for_u (fun (s : Da × Da × Da) (i : Option Da × Option Da) => [AV.d word, AV.d size, AV.d number, AV.d steps, AV.d counts, AV.r false false s.1, AV.d s.2.1, AV.d s.2.2, sl i.1, sl i.2]) (none, none) (irv_u (sl_u rfl rfl (osome_u (un_u rfl rfl h_e_7) rfl h_i_) rfl h_e_8) rfl h_xs) rfl hS ?_) ?_
    · clear h hS
      intro ends s i s' h
      obtain ⟨row_1, place_1, left⟩ := s
      obtain ⟨i__1, i__2⟩ := i
      try dsimp only at h
      refine wg (setD_go rfl (sl_fix _)) ?_
      show Wp ((_ : MS) [AV.d word, AV.d size, AV.d number, AV.d steps, AV.d counts, AV.r false false row_1, AV.d place_1, AV.d left, AV.d ends, sl i__2]) _
      replace h := bse h; obtain ⟨e_9, h_e_9, h⟩ := h
      replace h := bse h; obtain ⟨e_10, h_e_10, h⟩ := h
      replace h := bse h; obtain ⟨⟨name, place_2, left_1⟩, h_u, h⟩ := h
      try dsimp only at h
      refine wseq (asg_u (call_u (asv := [AV.d e_9, AV.d ends, AV.d left]) (acons_go (eop_go rfl rfl rfl rfl h_e_9) (acons_go rfl (acons_go rfl rfl))) rfl rfl h_e_10) rfl (gt3_u h_u (gs_c (setD_go rfl (sl_fix _)) (gs_c (setD_go rfl rfl) (gs_c (setD_go rfl rfl) gs_n))))) ?_
      show Wp ((_ : MS) [AV.d word, AV.d size, AV.d number, AV.d steps, AV.d counts, AV.r false false row_1, AV.d place_2, AV.d left_1, AV.d ends, AV.d name]) _
      replace h := bse h; obtain ⟨row_2, h_row_2, h⟩ := h
      replace h := Option.some.inj h; subst h
      exact wlast (append_p (acons_go rfl rfl) (oc rfl rfl) rfl h_row_2) ⟨((some ends), (some name)), Or.inl rfl⟩
    · rintro _ ⟨⟨i__3, i__4⟩, rfl⟩
      show Wp ((_ : MS) [AV.d word, AV.d size, AV.d number, AV.d steps, AV.d counts, AV.r false false row_3, AV.d place_3, AV.d left_2, sl i__3, sl i__4]) _
      replace h := bse h; obtain ⟨e_11, h_e_11, h⟩ := h
      replace h := Option.some.inj h; subst h
      exact wret (cb_u (acons_go rfl rfl) (rc rfl rfl) h_e_11) (qr_one rfl rfl)
noncomputable def u_wound_rows (word : Da) (size : Da) : Option (Da) :=
 (uC F_greatest_steps [AV.d word]).bind fun steps =>
 (uC F_count_ends [AV.d steps, AV.d size]).bind fun counts =>
 (fNeg (Da.int 1)).bind fun e_2 =>
 (fSubs counts e_2).bind fun e_3 =>
 (fSubs e_3 (Da.int 0)).bind fun many =>
 (fGt many (Da.int 1000)).bind fun e_5 =>
 (asB e_5).bind fun t =>
 cond t (none) ((fEqS many (Da.int 0)).bind fun e_6 =>
 (asB e_6).bind fun t_1 =>
 cond t_1 (some (Da.tuple [])) ((some (Da.list [(Da.tuple [(Da.tuple []), (Da.int 0)])])).bind fun begun =>
 (fNeg (Da.int 1)).bind fun e_7 =>
 (asI e_7).bind fun i_ =>
 (fSl none (some i_) counts).bind fun e_8 =>
 (revU e_8).bind fun xs =>
 (forU (fun ends (begun_1 : Da) =>
 (iterU begun_1).bind fun xs_1 =>
 (flatU (fun q =>
 (un2 q).bind fun (row, at_) =>
 (fSubs steps at_).bind fun e_9 =>
 (itemsOf e_9).bind fun xs_2 =>
 (flatU (fun q_1 =>
 (un2 q_1).bind fun (name, to) =>
 (fSubs ends to).bind fun e_10 =>
 cond (truD e_10) ((unT row).bind fun xs_3 =>
 (limU (xs_3 ++ [name])).bind fun e_11 =>
 some [(Da.tuple [(Da.tuple e_11), to])]) (some [])) xs_2).bind fun ys =>
 some ys) xs_1).bind fun ys_1 =>
 (limU ys_1).bind fun ys_2 =>
 (some (Da.list ys_2)).bind fun begun_2 =>
 some begun_2) xs begun).bind fun begun_3 =>
 (iterU begun_3).bind fun xs_4 =>
 (flatU (fun q_2 =>
 (un2 q_2).bind fun (row_1, at__1) =>
 some [row_1]) xs_4).bind fun ys_3 =>
 (limU ys_3).bind fun ys_4 =>
 (fTuple [(Da.list ys_4)]).bind fun e_12 =>
 some e_12))
theorem tx_wound_rows {word size r : Da} (h : u_wound_rows word size = some r) : F_wound_rows [AV.d word, AV.d size] = some (.one (.d r), [AV.d word, AV.d size]) := by
  unfold u_wound_rows at h
  refine def_u rfl ?_
  show Wp (m_wound_rows [AV.d word, AV.d size, .un, .un, .un, .un, .un, .un, .un, .un, .un]) _
  unfold m_wound_rows
  replace h := bse h; obtain ⟨steps, h_steps, h⟩ := h
  refine wseq (asg_u (call_u (asv := [AV.d word]) (acons_go rfl rfl) rfl rfl h_steps) rfl (setD_go rfl rfl)) ?_
  show Wp ((_ : MS) [AV.d word, AV.d size, AV.d steps, .un, .un, .un, .un, .un, .un, .un, .un]) _
  replace h := bse h; obtain ⟨counts, h_counts, h⟩ := h
  refine wseq (asg_u (call_u (asv := [AV.d steps, AV.d size]) (acons_go rfl (acons_go rfl rfl)) rfl rfl h_counts) rfl (setD_go rfl rfl)) ?_
  show Wp ((_ : MS) [AV.d word, AV.d size, AV.d steps, AV.d counts, .un, .un, .un, .un, .un, .un, .un]) _
  replace h := bse h; obtain ⟨e_2, h_e_2, h⟩ := h
  replace h := bse h; obtain ⟨e_3, h_e_3, h⟩ := h
  replace h := bse h; obtain ⟨many, h_many, h⟩ := h
  refine wseq (asg_u (eop_go (eop_go rfl (un_u rfl rfl h_e_2) rfl rfl h_e_3) rfl rfl rfl h_many) rfl (setD_go rfl rfl)) ?_
  show Wp ((_ : MS) [AV.d word, AV.d size, AV.d steps, AV.d counts, AV.d many, .un, .un, .un, .un, .un, .un]) _
  replace h := bse h; obtain ⟨e_5, h_e_5, h⟩ := h
  replace h := bse h; obtain ⟨t, h_t, h⟩ := h
  replace h := csp h; rcases h with ⟨hb, h⟩ | ⟨hb, h⟩
  · refine wsif_t (tofe_u (eop_go rfl rfl rfl rfl h_e_5) rfl h_t) hb (wseq_x ?_)
    cases h
  · refine wsif_f (tofe_u (eop_go rfl rfl rfl rfl h_e_5) rfl h_t) hb ?_
    refine wseq_next ?_
    replace h := bse h; obtain ⟨e_6, h_e_6, h⟩ := h
    replace h := bse h; obtain ⟨t_1, h_t_1, h⟩ := h
    replace h := csp h; rcases h with ⟨hb, h⟩ | ⟨hb, h⟩
    · refine wsif_t (tofe_u (eop_go rfl rfl rfl rfl h_e_6) rfl h_t_1) hb (wseq_x ?_)
      replace h := Option.some.inj h; subst h
      exact wret (tupN_go rfl rfl (Nat.le_of_ble_eq_true rfl)) ⟨(fun _ z => by cases z), (qr_one rfl rfl)⟩
    · refine wsif_f (tofe_u (eop_go rfl rfl rfl rfl h_e_6) rfl h_t_1) hb ?_
      refine wseq_next ?_
      replace h := bse h; obtain ⟨begun, h_begun, h⟩ := h
      replace h_begun := Option.some.inj h_begun
      refine wseq (asg_u2 h_begun (ef_u (flst_u (acons_go (tupN_go (acons_go (tupN_go rfl rfl (Nat.le_of_ble_eq_true rfl)) (acons_go rfl rfl)) (oc rfl (oc rfl rfl)) (Nat.le_of_ble_eq_true rfl)) rfl) (oc rfl rfl) (Nat.le_of_ble_eq_true rfl))) rfl (setD_go rfl rfl)) ?_
      show Wp ((_ : MS) [AV.d word, AV.d size, AV.d steps, AV.d counts, AV.d many, AV.d begun, .un, .un, .un, .un, .un]) _
      replace h := bse h; obtain ⟨e_7, h_e_7, h⟩ := h
      replace h := bse h; obtain ⟨i_, h_i_, h⟩ := h
      replace h := bse h; obtain ⟨e_8, h_e_8, h⟩ := h
      replace h := bse h; obtain ⟨xs, h_xs, h⟩ := h
      replace h := bse h; obtain ⟨begun_3, hS, h⟩ := h
      refine wseq_j (for_u (fun (s : Da) (i : Option Da) => [AV.d word, AV.d size, AV.d steps, AV.d counts, AV.d many, AV.d s, sl i, .un, .un, .un, .un]) none (irv_u (sl_u rfl rfl (osome_u (un_u rfl rfl h_e_7) rfl h_i_) rfl h_e_8) rfl h_xs) rfl hS ?_) ?_
      · clear h hS
        intro ends begun_1 i__1 s' h
        try dsimp only at h
        refine wg (setD_go rfl (sl_fix _)) ?_
        show Wp ((_ : MS) [AV.d word, AV.d size, AV.d steps, AV.d counts, AV.d many, AV.d begun_1, AV.d ends, .un, .un, .un, .un]) _
        replace h := bse h; obtain ⟨xs_1, h_xs_1, h⟩ := h
        replace h := bse h; obtain ⟨ys_1, h_ys_1, h⟩ := h
        replace h := bse h; obtain ⟨ys_2, h_ys_2, h⟩ := h
        replace h := bse h; obtain ⟨begun_2, h_begun_2, h⟩ := h
        replace h_begun_2 := Option.some.inj h_begun_2
        replace h := Option.some.inj h; subst h
        exact wlast (asg_u2 h_begun_2 (ef_u (flc_u (cm_u (W := [AV.d word, AV.d size, AV.d steps, AV.d counts, AV.d many, AV.d begun_1, AV.d ends, .un, .un, .un, .un]) (iany_u rfl rfl h_xs_1) (nr_cons rfl rfl (nr_cons rfl rfl (nr_cons rfl rfl (nr_cons rfl rfl nr_nil)))) rfl (fun q y h => by (replace h := bse h; obtain ⟨⟨row, at_⟩, h_u, h⟩ := h; try dsimp only at h; replace h := bse h; obtain ⟨e_9, h_e_9, h⟩ := h; replace h := bse h; obtain ⟨xs_2, h_xs_2, h⟩ := h; replace h := bse h; obtain ⟨ys, h_ys, h⟩ := h; replace h := Option.some.inj h; subst h; exact ⟨_, true, (gt2_u h_u (gs_c (setD_go rfl rfl) (gs_c (setD_go rfl rfl) gs_n))), rfl, fun _ => (cm_u (W := [AV.d word, AV.d size, AV.d steps, AV.d counts, AV.d many, AV.d begun_1, AV.d ends, AV.d row, AV.d at_, .un, .un]) (iitm_u (eop_go rfl rfl rfl rfl h_e_9) rfl h_xs_2) (nr_cons rfl rfl (nr_cons rfl rfl nr_nil)) rfl (fun q_1 y h => by (replace h := bse h; obtain ⟨⟨name, to⟩, h_u_1, h⟩ := h; try dsimp only at h; replace h := bse h; obtain ⟨e_10, h_e_10, h⟩ := h; replace h := csp h; rcases h with ⟨hb, h⟩ | ⟨hb, h⟩; (replace h := bse h; obtain ⟨xs_3, h_xs_3, h⟩ := h; replace h := bse h; obtain ⟨e_11, h_e_11, h⟩ := h; replace h := Option.some.inj h; subst h; exact ⟨_, _, (gt2_u h_u_1 (gs_c (setD_go rfl rfl) (gs_c (setD_go rfl rfl) gs_n))), (tru_u (eop_go rfl rfl rfl rfl h_e_10) rfl), fun _ => (mlc_u (tupN_go (acons_go (tupL_u (star_u rfl rfl h_xs_3 (acons_go rfl rfl)) (ownstar_u (oc rfl rfl)) h_e_11) (acons_go rfl rfl)) (oc rfl (oc rfl rfl)) (Nat.le_of_ble_eq_true rfl)) rfl), fun z => Bool.noConfusion (hb.symm.trans z), rfl⟩); (replace h := Option.some.inj h; subst h; exact ⟨_, _, (gt2_u h_u_1 (gs_c (setD_go rfl rfl) (gs_c (setD_go rfl rfl) gs_n))), (tru_u (eop_go rfl rfl rfl rfl h_e_10) rfl), fun z => Bool.noConfusion (hb.symm.trans z), fun _ => rfl, rfl⟩))) h_ys), fun z => Bool.noConfusion z, rfl⟩)) h_ys_1) h_ys_2)) rfl (setD_go rfl rfl)) ⟨(some ends), Or.inl rfl⟩
      · rintro _ ⟨i__2, rfl⟩
        show Wp ((_ : MS) [AV.d word, AV.d size, AV.d steps, AV.d counts, AV.d many, AV.d begun_3, sl i__2, .un, .un, .un, .un]) _
        replace h := bse h; obtain ⟨xs_4, h_xs_4, h⟩ := h
        replace h := bse h; obtain ⟨ys_3, h_ys_3, h⟩ := h
        replace h := bse h; obtain ⟨ys_4, h_ys_4, h⟩ := h
        replace h := bse h; obtain ⟨e_12, h_e_12, h⟩ := h
        replace h := Option.some.inj h; subst h
        exact wret (cb_u (acons_go (ef_u (flc_u (cm_u (W := [AV.d word, AV.d size, AV.d steps, AV.d counts, AV.d many, AV.d begun_3, sl i__2, .un, .un, .un, .un]) (iany_u rfl rfl h_xs_4) (nr_cons rfl rfl (nr_cons rfl rfl nr_nil)) rfl (fun q_2 y h => by (replace h := bse h; obtain ⟨⟨row_1, at__1⟩, h_u_2, h⟩ := h; try dsimp only at h; replace h := Option.some.inj h; subst h; exact ⟨_, true, (gt2_u h_u_2 (gs_c (setD_go rfl rfl) (gs_c (setD_go rfl rfl) gs_n))), rfl, fun _ => (mlc_u rfl rfl), fun z => Bool.noConfusion z, rfl⟩)) h_ys_3) h_ys_4)) rfl) (rc rfl rfl) h_e_12) (qr_one rfl rfl)
noncomputable def u_law_behind (word : Da) (spots : Da) (name : Da) : Option (Da) :=
 (iterU spots).bind fun xs =>
 (forU (fun spot (found_1 : Da) =>
 (uC F_law_winds [AV.d word, AV.d spot]).bind fun e =>
 (fAdd e (Da.list [spot])).bind fun e_1 =>
 (iterU e_1).bind fun xs_1 =>
 (forU (fun at_ (found_2 : Da) =>
 (fLenB [word]).bind fun e_2 =>
 (fLtA at_ e_2).bind fun e_3 =>
 (asB e_3).bind fun t =>
 (cond t ((fSubs word at_).bind fun e_4 =>
 (fEqS e_4 name).bind fun e_5 =>
 (asB e_5).bind fun t_1 =>
 some t_1) (some false)).bind fun t_2 =>
 cond t_2 ((fAdd at_ (Da.int 1)).bind fun e_6 =>
 (setDa found_2 e_6 (Da.bool true)).bind fun found_3 =>
 some found_3) (some found_2)) xs_1 found_1).bind fun found_4 =>
 some found_4) xs (Da.dk [])).bind fun found_5 =>
 (uSortDK [found_5]).bind fun ys =>
 some (Da.list ys)
theorem tx_law_behind {word spots name r : Da} (h : u_law_behind word spots name = some r) : F_law_behind [AV.d word, AV.d spots, AV.d name] = some (.one (.d r), [AV.d word, AV.d spots, AV.d name]) := by
  unfold u_law_behind at h
  refine def_u rfl ?_
  show Wp (m_law_behind [AV.d word, AV.d spots, AV.d name, .un, .un, .un]) _
  unfold m_law_behind
  refine wseq (asgR_u rfl rfl rfl) ?_
  show Wp ((_ : MS) [AV.d word, AV.d spots, AV.d name, AV.r false false (Da.dk []), .un, .un]) _
  replace h := bse h; obtain ⟨xs, h_xs, h⟩ := h
  replace h := bse h; obtain ⟨found_5, hS, h⟩ := h
  refine wseq_j (for_u (fun (s : Da) (i : Option Da × Option Da) => [AV.d word, AV.d spots, AV.d name, AV.r false false s, sl i.1, sl i.2]) (none, none) (iany_u rfl rfl h_xs) rfl hS ?_) ?_
  · clear h hS
    intro spot found_1 i s' h
    obtain ⟨i_, i__1⟩ := i
    try dsimp only at h
    refine wg (setD_go rfl (sl_fix _)) ?_
    show Wp ((_ : MS) [AV.d word, AV.d spots, AV.d name, AV.r false false found_1, AV.d spot, sl i__1]) _
    replace h := bse h; obtain ⟨e, h_e, h⟩ := h
    replace h := bse h; obtain ⟨e_1, h_e_1, h⟩ := h
    replace h := bse h; obtain ⟨xs_1, h_xs_1, h⟩ := h
    replace h := bse h; obtain ⟨found_4, hS, h⟩ := h
    refine Wp.mono (for_u (fun (s : Da) (i : Option Da) => [AV.d word, AV.d spots, AV.d name, AV.r false false s, AV.d spot, sl i]) i__1 (iany_u (eop_go (call_u (asv := [AV.d word, AV.d spot]) (acons_go rfl (acons_go rfl rfl)) rfl rfl h_e) (ef_u (flst_u (acons_go rfl rfl) (oc rfl rfl) (Nat.le_of_ble_eq_true rfl))) rfl rfl h_e_1) rfl h_xs_1) rfl hS ?_) ?_
    · clear h hS
      intro at_ found_2 i__2 s' h
      try dsimp only at h
      refine wg (setD_go rfl (sl_fix _)) ?_
      show Wp ((_ : MS) [AV.d word, AV.d spots, AV.d name, AV.r false false found_2, AV.d spot, AV.d at_]) _
      replace h := bse h; obtain ⟨e_2, h_e_2, h⟩ := h
      replace h := bse h; obtain ⟨e_3, h_e_3, h⟩ := h
      replace h := bse h; obtain ⟨t, h_t, h⟩ := h
      replace h := bse h; obtain ⟨t_2, h_t_2, h⟩ := h
      replace h := csp h; rcases h with ⟨hb, h⟩ | ⟨hb, h⟩
      · refine wif_t (mand_b (tofe_u (eop_go rfl (cb_u (acons_go rfl rfl) (rc rfl rfl) h_e_2) rfl rfl h_e_3) rfl h_t) (fun _ x h => by replace h := bse h; obtain ⟨e_4, h_e_4, h⟩ := h; replace h := bse h; obtain ⟨e_5, h_e_5, h⟩ := h; replace h := bse h; obtain ⟨t_1, h_t_1, h⟩ := h; replace h := Option.some.inj h; subst h; exact (tofe_u (eop_go (eop_go rfl rfl rfl rfl h_e_4) rfl rfl rfl h_e_5) rfl h_t_1)) h_t_2) hb ?_
        replace h := bse h; obtain ⟨e_6, h_e_6, h⟩ := h
        replace h := bse h; obtain ⟨found_3, h_found_3, h⟩ := h
        replace h := Option.some.inj h; subst h
        exact wlast (setI_u rfl rfl (eop_go rfl rfl rfl rfl h_e_6) rfl rfl rfl h_found_3) ⟨(some at_), Or.inl rfl⟩
      · refine wif_f (mand_b (tofe_u (eop_go rfl (cb_u (acons_go rfl rfl) (rc rfl rfl) h_e_2) rfl rfl h_e_3) rfl h_t) (fun _ x h => by replace h := bse h; obtain ⟨e_4, h_e_4, h⟩ := h; replace h := bse h; obtain ⟨e_5, h_e_5, h⟩ := h; replace h := bse h; obtain ⟨t_1, h_t_1, h⟩ := h; replace h := Option.some.inj h; subst h; exact (tofe_u (eop_go (eop_go rfl rfl rfl rfl h_e_4) rfl rfl rfl h_e_5) rfl h_t_1)) h_t_2) hb ?_
        replace h := Option.some.inj h; subst h
        exact wlast rfl ⟨(some at_), Or.inl rfl⟩
    · rintro _ ⟨_, rfl, i__3, rfl⟩
      replace h := Option.some.inj h; subst h
      exact ⟨((some spot), i__3), Or.inl rfl⟩
  · rintro _ ⟨⟨i__4, i__5⟩, rfl⟩
    show Wp ((_ : MS) [AV.d word, AV.d spots, AV.d name, AV.r false false found_5, sl i__4, sl i__5]) _
    replace h := bse h; obtain ⟨ys, h_ys, h⟩ := h
    replace h := Option.some.inj h; subst h
    exact wret (ef_u (fsortDK_u (acons_go rfl rfl) (rc rfl rfl) h_ys)) (qr_one rfl rfl)
noncomputable def u_law_leveled (word : Da) (names : Da) (most : Da) : Option (Da) :=
 (rg1U most).bind fun xs =>
 (forU (fun size (found_1 : Da) =>
 (fNeg (Da.int 1)).bind fun e =>
 (fSubs found_1 e).bind fun e_1 =>
 (iterU e_1).bind fun xs_1 =>
 (forU (fun q (longer_1 : Da) =>
 (un2 q).bind fun (row, spots) =>
 (iterU names).bind fun xs_2 =>
 (flatU (fun name =>
 (fAdd row (Da.tuple [name])).bind fun e_2 =>
 (uC F_law_behind [AV.d word, AV.d spots, AV.d name]).bind fun e_3 =>
 some [(Da.tuple [e_2, e_3])]) xs_2).bind fun ys =>
 (limU ys).bind fun ys_1 =>
 (extU longer_1 (Da.list ys_1)).bind fun longer_2 =>
 some longer_2) xs_1 (Da.list [])).bind fun longer_3 =>
 (appU found_1 longer_3).bind fun found_2 =>
 some found_2) xs (Da.list [(Da.list [(Da.tuple [(Da.tuple []), (Da.list [(Da.int 0)])])])])).bind fun found_3 =>
 some found_3
theorem tx_law_leveled {word names most r : Da} (h : u_law_leveled word names most = some r) : F_law_leveled [AV.d word, AV.d names, AV.d most] = some (.one (.w (.r r)), [AV.d word, AV.d names, AV.d most]) := by
  unfold u_law_leveled at h
  refine def_u rfl ?_
  show Wp (m_law_leveled [AV.d word, AV.d names, AV.d most, .un, .un, .un, .un, .un, .un]) _
  unfold m_law_leveled
  refine wseq (asgR_u (flst_u (acons_go (ef_u (flst_u (acons_go (tupN_go (acons_go (tupN_go rfl rfl (Nat.le_of_ble_eq_true rfl)) (acons_go (ef_u (flst_u (acons_go rfl rfl) (oc rfl rfl) (Nat.le_of_ble_eq_true rfl))) rfl)) (oc rfl (oc rfl rfl)) (Nat.le_of_ble_eq_true rfl)) rfl) (oc rfl rfl) (Nat.le_of_ble_eq_true rfl))) rfl) (oc rfl rfl) (Nat.le_of_ble_eq_true rfl)) rfl rfl) ?_
  show Wp ((_ : MS) [AV.d word, AV.d names, AV.d most, AV.r false false (Da.list [(Da.list [(Da.tuple [(Da.tuple []), (Da.list [(Da.int 0)])])])]), .un, .un, .un, .un, .un]) _
  replace h := bse h; obtain ⟨xs, h_xs, h⟩ := h
  replace h := bse h; obtain ⟨found_3, hS, h⟩ := h
  refine wseq_j (for_u (fun (s : Da) (i : Option Da × Option Da × Option Da × Option Da) => [AV.d word, AV.d names, AV.d most, AV.r false false s, sl i.1, sl i.2.1, sl i.2.2.1, sl i.2.2.2, .un]) (none, none, none, none) (irg1_u (acons_go rfl rfl) (rc rfl rfl) h_xs) rfl hS ?_) ?_
  · clear h hS
    intro size found_1 i s' h
    obtain ⟨i_, i__1, i__2, i__3⟩ := i
    try dsimp only at h
    refine wg (setD_go rfl (sl_fix _)) ?_
    show Wp ((_ : MS) [AV.d word, AV.d names, AV.d most, AV.r false false found_1, AV.d size, sl i__1, sl i__2, sl i__3, .un]) _
    refine wseq (asgR_u (flst_u rfl rfl (Nat.le_of_ble_eq_true rfl)) rfl (sl_fix _)) ?_
    show Wp ((_ : MS) [AV.d word, AV.d names, AV.d most, AV.r false false found_1, AV.d size, AV.r false false (Da.list []), sl i__2, sl i__3, .un]) _
    replace h := bse h; obtain ⟨e, h_e, h⟩ := h
    replace h := bse h; obtain ⟨e_1, h_e_1, h⟩ := h
    replace h := bse h; obtain ⟨xs_1, h_xs_1, h⟩ := h
    replace h := bse h; obtain ⟨longer_3, hS, h⟩ := h
    refine wseq_j (for_u (fun (s : Da) (i : Option Da × Option Da) => [AV.d word, AV.d names, AV.d most, AV.r false false found_1, AV.d size, AV.r false false s, sl i.1, sl i.2, .un]) (i__2, i__3) (iany_u (eop_go rfl (un_u rfl rfl h_e) rfl rfl h_e_1) rfl h_xs_1) rfl hS ?_) ?_
    · clear h hS
      intro q longer_1 i s' h
      obtain ⟨i__4, i__5⟩ := i
      try dsimp only at h
      replace h := bse h; obtain ⟨⟨row, spots⟩, h_u, h⟩ := h
      try dsimp only at h
      refine wg (gt2_u h_u (gs_c (setD_go rfl (sl_fix _)) (gs_c (setD_go rfl (sl_fix _)) gs_n))) ?_
      show Wp ((_ : MS) [AV.d word, AV.d names, AV.d most, AV.r false false found_1, AV.d size, AV.r false false longer_1, AV.d row, AV.d spots, .un]) _
      replace h := bse h; obtain ⟨xs_2, h_xs_2, h⟩ := h
      replace h := bse h; obtain ⟨ys, h_ys, h⟩ := h
      replace h := bse h; obtain ⟨ys_1, h_ys_1, h⟩ := h
      replace h := bse h; obtain ⟨longer_2, h_longer_2, h⟩ := h
      replace h := Option.some.inj h; subst h
      exact wlast (extend_p (acons_go (ef_u (flc_u (cm_u (W := [AV.d word, AV.d names, AV.d most, AV.r false false found_1, AV.d size, AV.r false false longer_1, AV.d row, AV.d spots, .un]) (iany_u rfl rfl h_xs_2) (nr_cons rfl rfl nr_nil) rfl (fun name y h => by (replace h := bse h; obtain ⟨e_2, h_e_2, h⟩ := h; replace h := bse h; obtain ⟨e_3, h_e_3, h⟩ := h; replace h := Option.some.inj h; subst h; exact ⟨_, true, (setD_go rfl rfl), rfl, fun _ => (mlc_u (tupN_go (acons_go (eop_go rfl (tupN_go (acons_go rfl rfl) (oc rfl rfl) (Nat.le_of_ble_eq_true rfl)) rfl rfl h_e_2) (acons_go (call_u (asv := [AV.d word, AV.d spots, AV.d name]) (acons_go rfl (acons_go rfl (acons_go rfl rfl))) rfl rfl h_e_3) rfl)) (oc rfl (oc rfl rfl)) (Nat.le_of_ble_eq_true rfl)) rfl), fun z => Bool.noConfusion z, rfl⟩)) h_ys) h_ys_1)) rfl) (oc rfl rfl) rfl h_longer_2) ⟨((some row), (some spots)), Or.inl rfl⟩
    · rintro _ ⟨⟨i__6, i__7⟩, rfl⟩
      show Wp ((_ : MS) [AV.d word, AV.d names, AV.d most, AV.r false false found_1, AV.d size, AV.r false false longer_3, sl i__6, sl i__7, .un]) _
      replace h := bse h; obtain ⟨found_2, h_found_2, h⟩ := h
      replace h := Option.some.inj h; subst h
      exact wlast (frz_r rfl (append_p (acons_go rfl rfl) (oc rfl rfl) rfl h_found_2)) ⟨((some size), (some longer_3), i__6, i__7), Or.inl rfl⟩
  · rintro _ ⟨⟨i__8, i__9, i__10, i__11⟩, rfl⟩
    show Wp ((_ : MS) [AV.d word, AV.d names, AV.d most, AV.r false false found_3, sl i__8, sl i__9, sl i__10, sl i__11, .un]) _
    replace h := Option.some.inj h; subst h
    exact wret rfl ⟨_, _, rfl, rfl, rfl⟩
noncomputable def u_law_right (word : Da) (names : Da) : Option (Da) :=
 (uC F_law_leveled [AV.d word, AV.d names, AV.d (Da.int 6)]).bind fun e =>
 (enuL e).bind fun xs =>
 (forE (ρ := Da) (fun q (_ : Unit) =>
 (un2 q).bind fun (size, level) =>
 (iterU level).bind fun xs_1 =>
 (flatU (fun q_1 =>
 (un2 q_1).bind fun (row, spots) =>
 (fLenB [word]).bind fun e_1 =>
 ((fIn false) e_1 spots).bind fun e_2 =>
 (asB e_2).bind fun t =>
 cond t (some [row]) (some [])) xs_1).bind fun ys =>
 (limU ys).bind fun ys_1 =>
 (some (Da.list ys_1)).bind fun due =>
 (iterU level).bind fun xs_2 =>
 (flatU (fun q_2 =>
 (un2 q_2).bind fun (row_1, spots_1) =>
 (uC F_is_wound [AV.d word, AV.d row_1, AV.d (Da.int 0)]).bind fun e_3 =>
 some [e_3]) xs_2).bind fun ys_2 =>
 (limU ys_2).bind fun ys_3 =>
 (some (Da.list ys_3)).bind fun told =>
 (fRepr [told]).bind fun e_4 =>
 (iterU level).bind fun xs_3 =>
 (flatU (fun q_3 =>
 (un2 q_3).bind fun (row_2, spots_2) =>
 (fLenB [word]).bind fun e_5 =>
 ((fIn false) e_5 spots_2).bind fun e_6 =>
 some [e_6]) xs_3).bind fun ys_4 =>
 (limU ys_4).bind fun ys_5 =>
 (fRepr [(Da.list ys_5)]).bind fun e_7 =>
 (fNeS e_4 e_7).bind fun e_8 =>
 (asB e_8).bind fun t_1 =>
 cond t_1 (some (.rt (Da.bool false))) ((uC F_count_wound [AV.d word, AV.d size]).bind fun e_9 =>
 (uC F_wound_rows [AV.d word, AV.d size]).bind fun e_10 =>
 (fRepr [(Da.tuple [e_9, e_10])]).bind fun e_11 =>
 (fLenB [due]).bind fun e_12 =>
 (fTuple [due]).bind fun e_13 =>
 (fRepr [(Da.tuple [e_12, e_13])]).bind fun e_14 =>
 (fNeS e_11 e_14).bind fun e_15 =>
 (asB e_15).bind fun t_2 =>
 cond t_2 (some (.rt (Da.bool false))) ((fLenB [due]).bind fun e_16 =>
 (rg1U e_16).bind fun xs_4 =>
 (flatU (fun number =>
 (uC F_wound_at [AV.d word, AV.d size, AV.d number]).bind fun e_17 =>
 some [e_17]) xs_4).bind fun ys_6 =>
 (limU ys_6).bind fun ys_7 =>
 (fNeS (Da.list ys_7) due).bind fun e_18 =>
 (asB e_18).bind fun t_3 =>
 cond t_3 (some (.rt (Da.bool false))) ((fLenB [due]).bind fun e_19 =>
 (uC F_law_is_none [AV.d word, AV.d size, AV.d e_19]).bind fun e_20 =>
 (cond (!(truD e_20)) (some true) ((fNeg (Da.int 1)).bind fun e_21 =>
 (uC F_law_is_none [AV.d word, AV.d size, AV.d e_21]).bind fun e_22 =>
 some (!(truD e_22)))).bind fun t_4 =>
 cond t_4 (some (.rt (Da.bool false))) (some (.nx ())))))) xs ()).bind fun o_ =>
 lpK o_ fun (_ : Unit) =>
 some (Da.bool true)
theorem tx_law_right {word names r : Da} (h : u_law_right word names = some r) : F_law_right [AV.d word, AV.d names] = some (.one (.d r), [AV.d word, AV.d names]) := by
  unfold u_law_right at h
  refine def_u rfl ?_
  show Wp (m_law_right [AV.d word, AV.d names, .un, .un, .un, .un, .un, .un, .un]) _
  unfold m_law_right
  replace h := bse h; obtain ⟨e, h_e, h⟩ := h
  replace h := bse h; obtain ⟨xs, h_xs, h⟩ := h
  replace h := bse h; obtain ⟨o_, hS, h⟩ := h
  refine seq_for_e (fun (s : Unit) (i : Option Da × Option Da × Option Da × Option Da) => [AV.d word, AV.d names, sl i.1, sl i.2.1, .un, .un, sl i.2.2.1, sl i.2.2.2, .un]) (fun r o => Qr (.one (.d r)) [AV.d word, AV.d names] [AV.d word, AV.d names] o) (none, none, none, none) (ienl_u (acons_go (call_u (asv := [AV.d word, AV.d names, AV.d (Da.int 6)]) (acons_go rfl (acons_go rfl (acons_go rfl rfl))) rfl rfl h_e) rfl) (oc rfl rfl) h_xs) rfl hS ?_ ?_ ?_
  · clear h hS
    intro q s i o' h
    obtain ⟨⟩ := s
    obtain ⟨i_, i__1, i__2, i__3⟩ := i
    try dsimp only at h
    replace h := bse h; obtain ⟨⟨size, level⟩, h_u, h⟩ := h
    try dsimp only at h
    refine wg (gt2_u h_u (gs_c (setD_go rfl (sl_fix _)) (gs_c (setD_go rfl (sl_fix _)) gs_n))) ?_
    show Wp ((_ : MS) [AV.d word, AV.d names, AV.d size, AV.d level, .un, .un, sl i__2, sl i__3, .un]) _
    replace h := bse h; obtain ⟨xs_1, h_xs_1, h⟩ := h
    replace h := bse h; obtain ⟨ys, h_ys, h⟩ := h
    replace h := bse h; obtain ⟨ys_1, h_ys_1, h⟩ := h
    replace h := bse h; obtain ⟨due, h_due, h⟩ := h
    replace h_due := Option.some.inj h_due
    refine wseq (asg_u2 h_due (ef_u (flc_u (cm_u (W := [AV.d word, AV.d names, AV.d size, AV.d level, .un, .un, sl i__2, sl i__3, .un]) (iany_u rfl rfl h_xs_1) (nr_cons rfl rfl (nr_cons rfl rfl nr_nil)) rfl (fun q_1 y h => by (replace h := bse h; obtain ⟨⟨row, spots⟩, h_u_1, h⟩ := h; try dsimp only at h; replace h := bse h; obtain ⟨e_1, h_e_1, h⟩ := h; replace h := bse h; obtain ⟨e_2, h_e_2, h⟩ := h; replace h := bse h; obtain ⟨t, h_t, h⟩ := h; replace h := csp h; rcases h with ⟨hb, h⟩ | ⟨hb, h⟩; (replace h := Option.some.inj h; subst h; exact ⟨_, _, (gt2_u h_u_1 (gs_c (setD_go rfl rfl) (gs_c (setD_go rfl rfl) gs_n))), (tofe_u (eop_go (cb_u (acons_go rfl rfl) (rc rfl rfl) h_e_1) rfl rfl rfl h_e_2) rfl h_t), fun _ => (mlc_u rfl rfl), fun z => Bool.noConfusion (hb.symm.trans z), rfl⟩); (replace h := Option.some.inj h; subst h; exact ⟨_, _, (gt2_u h_u_1 (gs_c (setD_go rfl rfl) (gs_c (setD_go rfl rfl) gs_n))), (tofe_u (eop_go (cb_u (acons_go rfl rfl) (rc rfl rfl) h_e_1) rfl rfl rfl h_e_2) rfl h_t), fun z => Bool.noConfusion (hb.symm.trans z), fun _ => rfl, rfl⟩))) h_ys) h_ys_1)) rfl (setD_go rfl (sl_fix _))) ?_
    show Wp ((_ : MS) [AV.d word, AV.d names, AV.d size, AV.d level, .un, .un, AV.d due, sl i__3, .un]) _
    replace h := bse h; obtain ⟨xs_2, h_xs_2, h⟩ := h
    replace h := bse h; obtain ⟨ys_2, h_ys_2, h⟩ := h
    replace h := bse h; obtain ⟨ys_3, h_ys_3, h⟩ := h
    replace h := bse h; obtain ⟨told, h_told, h⟩ := h
    replace h_told := Option.some.inj h_told
    refine wseq (asg_u2 h_told (ef_u (flc_u (cm_u (W := [AV.d word, AV.d names, AV.d size, AV.d level, .un, .un, AV.d due, sl i__3, .un]) (iany_u rfl rfl h_xs_2) (nr_cons rfl rfl (nr_cons rfl rfl nr_nil)) rfl (fun q_2 y h => by (replace h := bse h; obtain ⟨⟨row_1, spots_1⟩, h_u_2, h⟩ := h; try dsimp only at h; replace h := bse h; obtain ⟨e_3, h_e_3, h⟩ := h; replace h := Option.some.inj h; subst h; exact ⟨_, true, (gt2_u h_u_2 (gs_c (setD_go rfl rfl) (gs_c (setD_go rfl rfl) gs_n))), rfl, fun _ => (mlc_u (call_u (asv := [AV.d word, AV.d row_1, AV.d (Da.int 0)]) (acons_go rfl (acons_go rfl rfl)) rfl rfl h_e_3) rfl), fun z => Bool.noConfusion z, rfl⟩)) h_ys_2) h_ys_3)) rfl (setD_go rfl (sl_fix _))) ?_
    show Wp ((_ : MS) [AV.d word, AV.d names, AV.d size, AV.d level, .un, .un, AV.d due, AV.d told, .un]) _
    replace h := bse h; obtain ⟨e_4, h_e_4, h⟩ := h
    replace h := bse h; obtain ⟨xs_3, h_xs_3, h⟩ := h
    replace h := bse h; obtain ⟨ys_4, h_ys_4, h⟩ := h
    replace h := bse h; obtain ⟨ys_5, h_ys_5, h⟩ := h
    replace h := bse h; obtain ⟨e_7, h_e_7, h⟩ := h
    replace h := bse h; obtain ⟨e_8, h_e_8, h⟩ := h
    replace h := bse h; obtain ⟨t_1, h_t_1, h⟩ := h
    replace h := csp h; rcases h with ⟨hb, h⟩ | ⟨hb, h⟩
    · refine wsif_t (tofe_u (eop_go (cb_u (acons_go rfl rfl) (rc rfl rfl) h_e_4) (cb_u (acons_go (ef_u (flc_u (cm_u (W := [AV.d word, AV.d names, AV.d size, AV.d level, .un, .un, AV.d due, AV.d told, .un]) (iany_u rfl rfl h_xs_3) (nr_cons rfl rfl (nr_cons rfl rfl nr_nil)) rfl (fun q_3 y h => by (replace h := bse h; obtain ⟨⟨row_2, spots_2⟩, h_u_3, h⟩ := h; try dsimp only at h; replace h := bse h; obtain ⟨e_5, h_e_5, h⟩ := h; replace h := bse h; obtain ⟨e_6, h_e_6, h⟩ := h; replace h := Option.some.inj h; subst h; exact ⟨_, true, (gt2_u h_u_3 (gs_c (setD_go rfl rfl) (gs_c (setD_go rfl rfl) gs_n))), rfl, fun _ => (mlc_u (eop_go (cb_u (acons_go rfl rfl) (rc rfl rfl) h_e_5) rfl rfl rfl h_e_6) rfl), fun z => Bool.noConfusion z, rfl⟩)) h_ys_4) h_ys_5)) rfl) (rc rfl rfl) h_e_7) rfl rfl h_e_8) rfl h_t_1) hb (wseq_x ?_)
      replace h := Option.some.inj h; subst h
      exact wret rfl ⟨(fun _ z => by cases z), ⟨⟨_, _, rfl⟩, qr_one rfl rfl⟩⟩
    · refine wsif_f (tofe_u (eop_go (cb_u (acons_go rfl rfl) (rc rfl rfl) h_e_4) (cb_u (acons_go (ef_u (flc_u (cm_u (W := [AV.d word, AV.d names, AV.d size, AV.d level, .un, .un, AV.d due, AV.d told, .un]) (iany_u rfl rfl h_xs_3) (nr_cons rfl rfl (nr_cons rfl rfl nr_nil)) rfl (fun q_3 y h => by (replace h := bse h; obtain ⟨⟨row_2, spots_2⟩, h_u_3, h⟩ := h; try dsimp only at h; replace h := bse h; obtain ⟨e_5, h_e_5, h⟩ := h; replace h := bse h; obtain ⟨e_6, h_e_6, h⟩ := h; replace h := Option.some.inj h; subst h; exact ⟨_, true, (gt2_u h_u_3 (gs_c (setD_go rfl rfl) (gs_c (setD_go rfl rfl) gs_n))), rfl, fun _ => (mlc_u (eop_go (cb_u (acons_go rfl rfl) (rc rfl rfl) h_e_5) rfl rfl rfl h_e_6) rfl), fun z => Bool.noConfusion z, rfl⟩)) h_ys_4) h_ys_5)) rfl) (rc rfl rfl) h_e_7) rfl rfl h_e_8) rfl h_t_1) hb ?_
      refine wseq_next ?_
      replace h := bse h; obtain ⟨e_9, h_e_9, h⟩ := h
      replace h := bse h; obtain ⟨e_10, h_e_10, h⟩ := h
      replace h := bse h; obtain ⟨e_11, h_e_11, h⟩ := h
      replace h := bse h; obtain ⟨e_12, h_e_12, h⟩ := h
      replace h := bse h; obtain ⟨e_13, h_e_13, h⟩ := h
      replace h := bse h; obtain ⟨e_14, h_e_14, h⟩ := h
      replace h := bse h; obtain ⟨e_15, h_e_15, h⟩ := h
      replace h := bse h; obtain ⟨t_2, h_t_2, h⟩ := h
      replace h := csp h; rcases h with ⟨hb, h⟩ | ⟨hb, h⟩
      · refine wsif_t (tofe_u (eop_go (cb_u (acons_go (tupN_go (acons_go (call_u (asv := [AV.d word, AV.d size]) (acons_go rfl (acons_go rfl rfl)) rfl rfl h_e_9) (acons_go (call_u (asv := [AV.d word, AV.d size]) (acons_go rfl (acons_go rfl rfl)) rfl rfl h_e_10) rfl)) (oc rfl (oc rfl rfl)) (Nat.le_of_ble_eq_true rfl)) rfl) (rc rfl rfl) h_e_11) (cb_u (acons_go (tupN_go (acons_go (cb_u (acons_go rfl rfl) (rc rfl rfl) h_e_12) (acons_go (cb_u (acons_go rfl rfl) (rc rfl rfl) h_e_13) rfl)) (oc rfl (oc rfl rfl)) (Nat.le_of_ble_eq_true rfl)) rfl) (rc rfl rfl) h_e_14) rfl rfl h_e_15) rfl h_t_2) hb (wseq_x ?_)
        replace h := Option.some.inj h; subst h
        exact wret rfl ⟨(fun _ z => by cases z), ⟨⟨_, _, rfl⟩, qr_one rfl rfl⟩⟩
      · refine wsif_f (tofe_u (eop_go (cb_u (acons_go (tupN_go (acons_go (call_u (asv := [AV.d word, AV.d size]) (acons_go rfl (acons_go rfl rfl)) rfl rfl h_e_9) (acons_go (call_u (asv := [AV.d word, AV.d size]) (acons_go rfl (acons_go rfl rfl)) rfl rfl h_e_10) rfl)) (oc rfl (oc rfl rfl)) (Nat.le_of_ble_eq_true rfl)) rfl) (rc rfl rfl) h_e_11) (cb_u (acons_go (tupN_go (acons_go (cb_u (acons_go rfl rfl) (rc rfl rfl) h_e_12) (acons_go (cb_u (acons_go rfl rfl) (rc rfl rfl) h_e_13) rfl)) (oc rfl (oc rfl rfl)) (Nat.le_of_ble_eq_true rfl)) rfl) (rc rfl rfl) h_e_14) rfl rfl h_e_15) rfl h_t_2) hb ?_
        refine wseq_next ?_
        replace h := bse h; obtain ⟨e_16, h_e_16, h⟩ := h
        replace h := bse h; obtain ⟨xs_4, h_xs_4, h⟩ := h
        replace h := bse h; obtain ⟨ys_6, h_ys_6, h⟩ := h
        replace h := bse h; obtain ⟨ys_7, h_ys_7, h⟩ := h
        replace h := bse h; obtain ⟨e_18, h_e_18, h⟩ := h
        replace h := bse h; obtain ⟨t_3, h_t_3, h⟩ := h
        replace h := csp h; rcases h with ⟨hb, h⟩ | ⟨hb, h⟩
        · refine wsif_t (tofe_u (eop_go (ef_u (flc_u (cm_u (W := [AV.d word, AV.d names, AV.d size, AV.d level, .un, .un, AV.d due, AV.d told, .un]) (irg1_u (acons_go (cb_u (acons_go rfl rfl) (rc rfl rfl) h_e_16) rfl) (rc rfl rfl) h_xs_4) (nr_cons rfl rfl nr_nil) rfl (fun number y h => by (replace h := bse h; obtain ⟨e_17, h_e_17, h⟩ := h; replace h := Option.some.inj h; subst h; exact ⟨_, true, (setD_go rfl rfl), rfl, fun _ => (mlc_u (call_u (asv := [AV.d word, AV.d size, AV.d number]) (acons_go rfl (acons_go rfl (acons_go rfl rfl))) rfl rfl h_e_17) rfl), fun z => Bool.noConfusion z, rfl⟩)) h_ys_6) h_ys_7)) rfl rfl rfl h_e_18) rfl h_t_3) hb (wseq_x ?_)
          replace h := Option.some.inj h; subst h
          exact wret rfl ⟨(fun _ z => by cases z), ⟨⟨_, _, rfl⟩, qr_one rfl rfl⟩⟩
        · refine wsif_f (tofe_u (eop_go (ef_u (flc_u (cm_u (W := [AV.d word, AV.d names, AV.d size, AV.d level, .un, .un, AV.d due, AV.d told, .un]) (irg1_u (acons_go (cb_u (acons_go rfl rfl) (rc rfl rfl) h_e_16) rfl) (rc rfl rfl) h_xs_4) (nr_cons rfl rfl nr_nil) rfl (fun number y h => by (replace h := bse h; obtain ⟨e_17, h_e_17, h⟩ := h; replace h := Option.some.inj h; subst h; exact ⟨_, true, (setD_go rfl rfl), rfl, fun _ => (mlc_u (call_u (asv := [AV.d word, AV.d size, AV.d number]) (acons_go rfl (acons_go rfl (acons_go rfl rfl))) rfl rfl h_e_17) rfl), fun z => Bool.noConfusion z, rfl⟩)) h_ys_6) h_ys_7)) rfl rfl rfl h_e_18) rfl h_t_3) hb ?_
          refine wseq_next ?_
          replace h := bse h; obtain ⟨e_19, h_e_19, h⟩ := h
          replace h := bse h; obtain ⟨e_20, h_e_20, h⟩ := h
          replace h := bse h; obtain ⟨t_4, h_t_4, h⟩ := h
          replace h := csp h; rcases h with ⟨hb, h⟩ | ⟨hb, h⟩
          · refine wif_t (mor_b (mnot_go (tru_u (call_u (asv := [AV.d word, AV.d size, AV.d e_19]) (acons_go rfl (acons_go rfl (acons_go (cb_u (acons_go rfl rfl) (rc rfl rfl) h_e_19) rfl))) rfl rfl h_e_20) rfl)) (fun _ x h => by replace h := bse h; obtain ⟨e_21, h_e_21, h⟩ := h; replace h := bse h; obtain ⟨e_22, h_e_22, h⟩ := h; replace h := Option.some.inj h; subst h; exact (mnot_go (tru_u (call_u (asv := [AV.d word, AV.d size, AV.d e_21]) (acons_go rfl (acons_go rfl (acons_go (un_u rfl rfl h_e_21) rfl))) rfl rfl h_e_22) rfl))) h_t_4) hb ?_
            replace h := Option.some.inj h; subst h
            exact wret rfl ⟨⟨_, _, rfl⟩, qr_one rfl rfl⟩
          · refine wif_f (mor_b (mnot_go (tru_u (call_u (asv := [AV.d word, AV.d size, AV.d e_19]) (acons_go rfl (acons_go rfl (acons_go (cb_u (acons_go rfl rfl) (rc rfl rfl) h_e_19) rfl))) rfl rfl h_e_20) rfl)) (fun _ x h => by replace h := bse h; obtain ⟨e_21, h_e_21, h⟩ := h; replace h := bse h; obtain ⟨e_22, h_e_22, h⟩ := h; replace h := Option.some.inj h; subst h; exact (mnot_go (tru_u (call_u (asv := [AV.d word, AV.d size, AV.d e_21]) (acons_go rfl (acons_go rfl (acons_go (un_u rfl rfl h_e_21) rfl))) rfl rfl h_e_22) rfl))) h_t_4) hb ?_
            replace h := Option.some.inj h; subst h
            exact wlast rfl ⟨((some size), (some level), (some due), (some told)), Or.inl rfl⟩
  · intro s hk i
    replace h := lpK_go hk h
    obtain ⟨⟩ := s
    obtain ⟨i__4, i__5, i__6, i__7⟩ := i
    try dsimp only at h
    show Wp ((_ : MS) [AV.d word, AV.d names, sl i__4, sl i__5, .un, .un, sl i__6, sl i__7, .un]) _
    replace h := Option.some.inj h; subst h
    exact wret rfl (qr_one rfl rfl)
  · intro r hk o ho hq
    subst hk
    change some _ = some _ at h
    replace h := Option.some.inj h; subst h
    exact hq
noncomputable def u_law (script : List Int) : Option (Da) :=
 (fMin [(Da.int 2), (Da.int (script.length : Int))]).bind fun e =>
 (fMax [(Da.int 1), e]).bind fun e_1 =>
 (rg1U e_1).bind fun xs =>
 (forE (ρ := Da) (fun k_1 (_ : Unit) =>
 (uW F_law_pot [AV.sc script, AV.d k_1]).bind fun e_16 =>
 (uR1 F_law_take [AV.r false false e_16, AV.d (Da.int 3)] 0).bind fun (e_17, pot_3) =>
 (fAdd (Da.int 1) e_17).bind fun e_18 =>
 (uR1 F_law_names [AV.r false false pot_3, AV.d e_18] 0).bind fun (names_1, pot_4) =>
 (uR1 F_law_word [AV.r false false pot_4, AV.d names_1, AV.d (Da.int 6)] 0).bind fun (word_1, pot_5) =>
 (fLenB [names_1]).bind fun e_21 =>
 (fLtA e_21 (Da.int 3)).bind fun e_22 =>
 (asB e_22).bind fun t_1 =>
 (cond t_1 (((fIn true) (Da.str (Str.ofString "qq")) names_1).bind fun e_23 =>
 some e_23) (some (Da.bool false))).bind fun e_24 =>
 (fInt [e_24]).bind fun e_26 =>
 (fRep (Da.list [(Da.str (Str.ofString "qq"))]) e_26).bind fun e_27 =>
 (fAdd names_1 e_27).bind fun e_28 =>
 (uSortM [e_28]).bind fun ys_1 =>
 (uC F_law_right [AV.d word_1, AV.d (Da.list ys_1)]).bind fun e_29 =>
 cond (!(truD e_29)) (some (.rt (Da.bool false))) (some (.nx ()))) xs ()).bind fun o__2 =>
 lpK o__2 fun (_ : Unit) =>
 some (Da.bool true)
theorem tx_law {script : List Int} {r : Da} (h : u_law script = some r) : F_law [AV.sc script] = some (.one (.d r), [AV.sc script]) := by
  unfold u_law at h
  refine def_u rfl ?_
  show Wp (m_law [AV.sc script, .un, .un, .un, .un]) _
  unfold m_law
  replace h := bse h; obtain ⟨e, h_e, h⟩ := h
  replace h := bse h; obtain ⟨e_1, h_e_1, h⟩ := h
  replace h := bse h; obtain ⟨xs, h_xs, h⟩ := h
  replace h := bse h; obtain ⟨o__2, hS, h⟩ := h
  refine seq_for_e (fun (s : Unit) (i : Option Da × Option Da × Option Da × Option Da) => [AV.sc script, sl i.1, sr i.2.1, sl i.2.2.1, sl i.2.2.2]) (fun r o => Qr (.one (.d r)) [AV.sc script] [AV.sc script] o) (none, none, none, none) (irg1_u (acons_go (cb_u (acons_go rfl (acons_go (cb_u (acons_go rfl (acons_go rfl rfl)) (rc rfl (rc rfl rfl)) h_e) rfl)) (rc rfl (rc rfl rfl)) h_e_1) rfl) (rc rfl rfl) h_xs) rfl hS ?_ ?_ ?_
  · clear h hS
    intro k_1 s i o' h
    obtain ⟨⟩ := s
    obtain ⟨i__4, i__5, i__6, i__7⟩ := i
    try dsimp only at h
    refine wg (setD_go rfl (sl_fix _)) ?_
    show Wp ((_ : MS) [AV.sc script, AV.d k_1, sr i__5, sl i__6, sl i__7]) _
    replace h := bse h; obtain ⟨e_16, h_e_16, h⟩ := h
    refine wseq (asgR_u (fcall_u (asv := [AV.sc script, AV.d k_1]) (acons_go rfl (acons_go rfl rfl)) rfl rfl h_e_16) rfl (sr_fix _)) ?_
    show Wp ((_ : MS) [AV.sc script, AV.d k_1, AV.r false false e_16, sl i__6, sl i__7]) _
    replace h := bse h; obtain ⟨⟨e_17, pot_3⟩, h_e_17, h⟩ := h
    dsimp only at h
    replace h := bse h; obtain ⟨e_18, h_e_18, h⟩ := h
    replace h := bse h; obtain ⟨⟨names_1, pot_4⟩, h_names_1, h⟩ := h
    dsimp only at h
    refine wseq (asg_u (callr_u (γ := [AV.sc script, AV.d k_1, AV.r false false pot_4, sl i__6, sl i__7]) (acons_go rfl (acons_go (eop_go rfl (callr_u (γ := [AV.sc script, AV.d k_1, AV.r false false pot_3, sl i__6, sl i__7]) (acons_go rfl (acons_go rfl rfl)) rfl (nodup_ix (is := [2]) rfl (by decide)) (uR1_eq h_e_17) (put1_u (i := 2) rfl rfl rfl rfl rfl rfl)) rfl rfl h_e_18) rfl)) rfl (nodup_ix (is := [2]) rfl (by decide)) (uR1_eq h_names_1) (put1_u (i := 2) rfl rfl rfl rfl rfl rfl)) rfl (setD_go rfl (sl_fix _))) ?_
    show Wp ((_ : MS) [AV.sc script, AV.d k_1, AV.r false false pot_4, AV.d names_1, sl i__7]) _
    replace h := bse h; obtain ⟨⟨word_1, pot_5⟩, h_word_1, h⟩ := h
    dsimp only at h
    refine wseq (asg_u (callr_u (γ := [AV.sc script, AV.d k_1, AV.r false false pot_5, AV.d names_1, sl i__7]) (acons_go rfl (acons_go rfl (acons_go rfl rfl))) rfl (nodup_ix (is := [2]) rfl (by decide)) (uR1_eq h_word_1) (put1_u (i := 2) rfl rfl rfl rfl rfl rfl)) rfl (setD_go rfl (sl_fix _))) ?_
    show Wp ((_ : MS) [AV.sc script, AV.d k_1, AV.r false false pot_5, AV.d names_1, AV.d word_1]) _
    replace h := bse h; obtain ⟨e_21, h_e_21, h⟩ := h
    replace h := bse h; obtain ⟨e_22, h_e_22, h⟩ := h
    replace h := bse h; obtain ⟨t_1, h_t_1, h⟩ := h
    replace h := bse h; obtain ⟨e_24, h_e_24, h⟩ := h
    obtain ⟨l_1, e_25, o__1⟩ : ∃ l, (eAnd (eOp fLtA (eCB fLenB (aCons (eV 3) aNil)) (eC (.int 3))) (eOp (fIn true) (eC (.str (Str.ofString "qq"))) (eV 3))) [AV.sc script, AV.d k_1, AV.r false false pot_5, AV.d names_1, AV.d word_1] = some (l, [AV.sc script, AV.d k_1, AV.r false false pot_5, AV.d names_1, AV.d word_1]) ∧ own [AV.sc script, AV.d k_1, AV.r false false pot_5, AV.d names_1, AV.d word_1] l = some e_24 := (and_b (tofe_u (eop_go (cb_u (acons_go rfl rfl) (rc rfl rfl) h_e_21) rfl rfl rfl h_e_22) rfl h_t_1) (fun _ x h => by replace h := bse h; obtain ⟨e_23, h_e_23, h⟩ := h; replace h := Option.some.inj h; subst h; exact ⟨_, (eop_go rfl rfl rfl rfl h_e_23), rfl⟩) h_e_24)
    replace h := bse h; obtain ⟨e_26, h_e_26, h⟩ := h
    replace h := bse h; obtain ⟨e_27, h_e_27, h⟩ := h
    replace h := bse h; obtain ⟨e_28, h_e_28, h⟩ := h
    replace h := bse h; obtain ⟨ys_1, h_ys_1, h⟩ := h
    replace h := bse h; obtain ⟨e_29, h_e_29, h⟩ := h
    replace h := csp h; rcases h with ⟨hb, h⟩ | ⟨hb, h⟩
    · refine wif_t (mnot_go (tru_u (call_u (asv := [AV.d word_1, AV.d (Da.list ys_1)]) (acons_go rfl (acons_go (ef_u (fsortM_u (acons_go (eop_go rfl (eop_go (ef_u (flst_u (acons_go rfl rfl) (oc rfl rfl) (Nat.le_of_ble_eq_true rfl))) (cb_u (acons_go e_25 rfl) (rc (own_res o__1) rfl) h_e_26) rfl rfl h_e_27) rfl rfl h_e_28) rfl) (rc rfl rfl) h_ys_1)) rfl)) rfl rfl h_e_29) rfl)) hb ?_
      replace h := Option.some.inj h; subst h
      exact wret rfl ⟨⟨_, _, rfl⟩, qr_one rfl rfl⟩
    · refine wif_f (mnot_go (tru_u (call_u (asv := [AV.d word_1, AV.d (Da.list ys_1)]) (acons_go rfl (acons_go (ef_u (fsortM_u (acons_go (eop_go rfl (eop_go (ef_u (flst_u (acons_go rfl rfl) (oc rfl rfl) (Nat.le_of_ble_eq_true rfl))) (cb_u (acons_go e_25 rfl) (rc (own_res o__1) rfl) h_e_26) rfl rfl h_e_27) rfl rfl h_e_28) rfl) (rc rfl rfl) h_ys_1)) rfl)) rfl rfl h_e_29) rfl)) hb ?_
      replace h := Option.some.inj h; subst h
      exact wlast rfl ⟨((some k_1), (some pot_5), (some names_1), (some word_1)), Or.inl rfl⟩
  · intro s hk i
    replace h := lpK_go hk h
    obtain ⟨⟩ := s
    obtain ⟨i__8, i__9, i__10, i__11⟩ := i
    try dsimp only at h
    show Wp ((_ : MS) [AV.sc script, sl i__8, sr i__9, sl i__10, sl i__11]) _
    replace h := Option.some.inj h; subst h
    exact wret rfl (qr_one rfl rfl)
  · intro r hk o ho hq
    subst hk
    change some _ = some _ at h
    replace h := Option.some.inj h; subst h
    exact hq
end K04
namespace Wo
open PySem PySem.Spec PyProof.Rows L2 Gk Vm
noncomputable def u_greatest_steps (v : Da) : Option (Da) :=
 (fLenB [v]).bind fun e =>
 (fAdd e (Da.int 1)).bind fun e_1 =>
 (rg1U e_1).bind fun xs =>
 (forU (fun v_3 (v_2 : Da) =>
 (uC F_going_places [AV.d v, AV.d v_3]).bind fun e_2 =>
 (iterU e_2).bind fun xs_1 =>
 (flatU (fun v_4 =>
 (fSubs v v_4).bind fun e_3 =>
 (fAdd v_4 (Da.int 1)).bind fun e_4 =>
 (keyD e_3).bind fun k =>
 some [(k, e_4)]) xs_1).bind fun ys =>
 (limU ys).bind fun ys_1 =>
 (some (Da.dk (mkD ys_1))).bind fun v_5 =>
 (uSortDK [v_5]).bind fun ys_2 =>
 (iterU (Da.list ys_2)).bind fun xs_2 =>
 (flatU (fun v_6 =>
 (fSubs v_5 v_6).bind fun e_5 =>
 (keyD v_6).bind fun k_1 =>
 some [(k_1, e_5)]) xs_2).bind fun ys_3 =>
 (limU ys_3).bind fun ys_4 =>
 (appU v_2 (Da.dk (mkD ys_4))).bind fun v_7 =>
 some v_7) xs (Da.list [])).bind fun v_8 =>
 some v_8
theorem tx_greatest_steps {v r : Da} (h : u_greatest_steps v = some r) : F_greatest_steps [AV.d v] = some (.one (.w (.r r)), [AV.d v]) := by
  unfold u_greatest_steps at h
  refine def_u rfl ?_
  show Wp (m_greatest_steps [AV.d v, .un, .un, .un, .un, .un]) _
  unfold m_greatest_steps
  refine wseq (asgR_u (flst_u rfl rfl (Nat.le_of_ble_eq_true rfl)) rfl rfl) ?_
  show Wp ((_ : MS) [AV.d v, AV.r false false (Da.list []), .un, .un, .un, .un]) _
  replace h := bse h; obtain ⟨e, h_e, h⟩ := h
  replace h := bse h; obtain ⟨e_1, h_e_1, h⟩ := h
  replace h := bse h; obtain ⟨xs, h_xs, h⟩ := h
  replace h := bse h; obtain ⟨v_8, hS, h⟩ := h
  refine wseq_j (for_u (fun (s : Da) (i : Option Da × Option Da) => [AV.d v, AV.r false false s, sl i.1, .un, sl i.2, .un]) (none, none) (irg1_u (acons_go (eop_go (cb_u (acons_go rfl rfl) (rc rfl rfl) h_e) rfl rfl rfl h_e_1) rfl) (rc rfl rfl) h_xs) rfl hS ?_) ?_
  · clear h hS
    intro v_3 v_2 i s' h
    obtain ⟨i_, i__1⟩ := i
    try dsimp only at h
    refine wg (setD_go rfl (sl_fix _)) ?_
    show Wp ((_ : MS) [AV.d v, AV.r false false v_2, AV.d v_3, .un, sl i__1, .un]) _
    replace h := bse h; obtain ⟨e_2, h_e_2, h⟩ := h
    replace h := bse h; obtain ⟨xs_1, h_xs_1, h⟩ := h
    replace h := bse h; obtain ⟨ys, h_ys, h⟩ := h
    replace h := bse h; obtain ⟨ys_1, h_ys_1, h⟩ := h
    replace h := bse h; obtain ⟨v_5, h_v_5, h⟩ := h
    replace h_v_5 := Option.some.inj h_v_5
    refine wseq (asg_u2 h_v_5 (ef_u (fdc_u (cm_u (W := [AV.d v, AV.r false false v_2, AV.d v_3, .un, sl i__1, .un]) (iany_u (call_u (asv := [AV.d v, AV.d v_3]) (acons_go rfl (acons_go rfl rfl)) rfl rfl h_e_2) rfl h_xs_1) (nr_cons rfl rfl nr_nil) rfl (fun v_4 y h => by (replace h := bse h; obtain ⟨e_3, h_e_3, h⟩ := h; replace h := bse h; obtain ⟨e_4, h_e_4, h⟩ := h; replace h := bse h; obtain ⟨k, h_k, h⟩ := h; replace h := Option.some.inj h; subst h; exact ⟨_, true, (setD_go rfl rfl), rfl, fun _ => (mdc_u (eop_go rfl rfl rfl rfl h_e_3) (eop_go rfl rfl rfl rfl h_e_4) rfl rfl h_k), fun z => Bool.noConfusion z, rfl⟩)) h_ys) h_ys_1)) rfl (setD_go rfl (sl_fix _))) ?_
    show Wp ((_ : MS) [AV.d v, AV.r false false v_2, AV.d v_3, .un, AV.d v_5, .un]) _
    replace h := bse h; obtain ⟨ys_2, h_ys_2, h⟩ := h
    replace h := bse h; obtain ⟨xs_2, h_xs_2, h⟩ := h
    replace h := bse h; obtain ⟨ys_3, h_ys_3, h⟩ := h
    replace h := bse h; obtain ⟨ys_4, h_ys_4, h⟩ := h
    replace h := bse h; obtain ⟨v_7, h_v_7, h⟩ := h
    replace h := Option.some.inj h; subst h
    exact wlast (append_p (acons_go (ef_u (fdc_u (cm_u (W := [AV.d v, AV.r false false v_2, AV.d v_3, .un, AV.d v_5, .un]) (iany_u (ef_u (fsortDK_u (acons_go rfl rfl) (rc rfl rfl) h_ys_2)) rfl h_xs_2) (nr_cons rfl rfl nr_nil) rfl (fun v_6 y h => by (replace h := bse h; obtain ⟨e_5, h_e_5, h⟩ := h; replace h := bse h; obtain ⟨k_1, h_k_1, h⟩ := h; replace h := Option.some.inj h; subst h; exact ⟨_, true, (setD_go rfl rfl), rfl, fun _ => (mdc_u rfl (eop_go rfl rfl rfl rfl h_e_5) rfl rfl h_k_1), fun z => Bool.noConfusion z, rfl⟩)) h_ys_3) h_ys_4)) rfl) (oc rfl rfl) rfl h_v_7) ⟨((some v_3), (some v_5)), Or.inl rfl⟩
  · rintro _ ⟨⟨i__2, i__3⟩, rfl⟩
    show Wp ((_ : MS) [AV.d v, AV.r false false v_8, sl i__2, .un, sl i__3, .un]) _
    replace h := Option.some.inj h; subst h
    exact wret rfl ⟨_, _, rfl, rfl, rfl⟩
noncomputable def u_count_ends (v : Da) (v_1 : Da) : Option (Da) :=
 (fLenB [v]).bind fun e =>
 (rg1U e).bind fun xs =>
 (flatU (fun v_2 =>
 (fGe v_1 (Da.int 0)).bind fun e_1 =>
 (asB e_1).bind fun t =>
 (cond t ((fLenB [v]).bind fun e_2 =>
 (fSub e_2 (Da.int 1)).bind fun e_3 =>
 (fEqS v_2 e_3).bind fun e_4 =>
 some e_4) (some (Da.bool false))).bind fun e_5 =>
 (fInt [e_5]).bind fun e_7 =>
 some [e_7]) xs).bind fun ys =>
 (limU ys).bind fun ys_1 =>
 (rg1U v_1).bind fun xs_1 =>
 (forU (fun v_5 (v_4 : Da) =>
 (fSubs v_4 v_5).bind fun v_6 =>
 (iterU v).bind fun xs_2 =>
 (flatU (fun v_7 =>
 (valsOf v_7).bind fun xs_3 =>
 (flatU (fun v_8 =>
 (fSubs v_6 v_8).bind fun e_9 =>
 some [e_9]) xs_3).bind fun ys_2 =>
 (limU ys_2).bind fun ys_3 =>
 (fSum [(Da.list ys_3)]).bind fun e_10 =>
 some [e_10]) xs_2).bind fun ys_4 =>
 (limU ys_4).bind fun ys_5 =>
 (appU v_4 (Da.list ys_5)).bind fun v_9 =>
 some v_9) xs_1 (Da.list [(Da.list ys_1)])).bind fun v_10 =>
 some v_10
theorem tx_count_ends {v v_1 r : Da} (h : u_count_ends v v_1 = some r) : F_count_ends [AV.d v, AV.d v_1] = some (.one (.w (.r r)), [AV.d v, AV.d v_1]) := by
  unfold u_count_ends at h
  refine def_u rfl ?_
  show Wp (m_count_ends [AV.d v, AV.d v_1, .un, .un, .un, .un, .un, .un]) _
  unfold m_count_ends
  replace h := bse h; obtain ⟨e, h_e, h⟩ := h
  replace h := bse h; obtain ⟨xs, h_xs, h⟩ := h
  replace h := bse h; obtain ⟨ys, h_ys, h⟩ := h
  replace h := bse h; obtain ⟨ys_1, h_ys_1, h⟩ := h
  refine wseq (asgR_u (flst_u (acons_go (ef_u (flc_u (cm_u (W := [AV.d v, AV.d v_1, .un, .un, .un, .un, .un, .un]) (irg1_u (acons_go (cb_u (acons_go rfl rfl) (rc rfl rfl) h_e) rfl) (rc rfl rfl) h_xs) (nr_cons rfl rfl nr_nil) rfl (fun v_2 y h => by (replace h := bse h; obtain ⟨e_1, h_e_1, h⟩ := h; replace h := bse h; obtain ⟨t, h_t, h⟩ := h; replace h := bse h; obtain ⟨e_5, h_e_5, h⟩ := h; obtain ⟨l, e_6, o_⟩ : ∃ l, (eAnd (eOp fGe (eV 1) (eC (.int 0))) (eOp fEqS (eV 2) (eOp fSub (eCB fLenB (aCons (eV 0) aNil)) (eC (.int 1))))) [AV.d v, AV.d v_1, AV.d v_2, .un, .un, .un, .un, .un] = some (l, [AV.d v, AV.d v_1, AV.d v_2, .un, .un, .un, .un, .un]) ∧ own [AV.d v, AV.d v_1, AV.d v_2, .un, .un, .un, .un, .un] l = some e_5 := (and_b (tofe_u (eop_go rfl rfl rfl rfl h_e_1) rfl h_t) (fun _ x h => by replace h := bse h; obtain ⟨e_2, h_e_2, h⟩ := h; replace h := bse h; obtain ⟨e_3, h_e_3, h⟩ := h; replace h := bse h; obtain ⟨e_4, h_e_4, h⟩ := h; replace h := Option.some.inj h; subst h; exact ⟨_, (eop_go rfl (eop_go (cb_u (acons_go rfl rfl) (rc rfl rfl) h_e_2) rfl rfl rfl h_e_3) rfl rfl h_e_4), rfl⟩) h_e_5); replace h := bse h; obtain ⟨e_7, h_e_7, h⟩ := h; replace h := Option.some.inj h; subst h; exact ⟨_, true, (setD_go rfl rfl), rfl, fun _ => (mlc_u (cb_u (acons_go e_6 rfl) (rc (own_res o_) rfl) h_e_7) rfl), fun z => Bool.noConfusion z, rfl⟩)) h_ys) h_ys_1)) rfl) (oc rfl rfl) (Nat.le_of_ble_eq_true rfl)) rfl rfl) ?_
  show Wp ((_ : MS) [AV.d v, AV.d v_1, .un, AV.r false false (Da.list [(Da.list ys_1)]), .un, .un, .un, .un]) _
  replace h := bse h; obtain ⟨xs_1, h_xs_1, h⟩ := h
  replace h := bse h; obtain ⟨v_10, hS, h⟩ := h
  refine wseq_j (for_u (fun (s : Da) (i : Option Da × Option Da) => [AV.d v, AV.d v_1, .un, AV.r false false s, sl i.1, sl i.2, .un, .un]) (none, none) (irg1_u (acons_go rfl rfl) (rc rfl rfl) h_xs_1) rfl hS ?_) ?_
  · clear h hS
    intro v_5 v_4 i s' h
    obtain ⟨i_, i__1⟩ := i
    try dsimp only at h
    refine wg (setD_go rfl (sl_fix _)) ?_
    show Wp ((_ : MS) [AV.d v, AV.d v_1, .un, AV.r false false v_4, AV.d v_5, sl i__1, .un, .un]) _
    replace h := bse h; obtain ⟨v_6, h_v_6, h⟩ := h
    refine wseq (asg_u (eop_go rfl rfl rfl rfl h_v_6) rfl (setD_go rfl (sl_fix _))) ?_
    show Wp ((_ : MS) [AV.d v, AV.d v_1, .un, AV.r false false v_4, AV.d v_5, AV.d v_6, .un, .un]) _
    replace h := bse h; obtain ⟨xs_2, h_xs_2, h⟩ := h
    replace h := bse h; obtain ⟨ys_4, h_ys_4, h⟩ := h
    replace h := bse h; obtain ⟨ys_5, h_ys_5, h⟩ := h
    replace h := bse h; obtain ⟨v_9, h_v_9, h⟩ := h
    replace h := Option.some.inj h; subst h
    exact wlast (append_p (acons_go (ef_u (flc_u (cm_u (W := [AV.d v, AV.d v_1, .un, AV.r false false v_4, AV.d v_5, AV.d v_6, .un, .un]) (iany_u rfl rfl h_xs_2) (nr_cons rfl rfl nr_nil) rfl (fun v_7 y h => by (replace h := bse h; obtain ⟨xs_3, h_xs_3, h⟩ := h; replace h := bse h; obtain ⟨ys_2, h_ys_2, h⟩ := h; replace h := bse h; obtain ⟨ys_3, h_ys_3, h⟩ := h; replace h := bse h; obtain ⟨e_10, h_e_10, h⟩ := h; replace h := Option.some.inj h; subst h; exact ⟨_, true, (setD_go rfl rfl), rfl, fun _ => (mlc_u (cb_u (acons_go (ef_u (flc_u (cm_u (W := [AV.d v, AV.d v_1, .un, AV.r false false v_4, AV.d v_5, AV.d v_6, AV.d v_7, .un]) (ival_u rfl rfl h_xs_3) (nr_cons rfl rfl nr_nil) rfl (fun v_8 y h => by (replace h := bse h; obtain ⟨e_9, h_e_9, h⟩ := h; replace h := Option.some.inj h; subst h; exact ⟨_, true, (setD_go rfl rfl), rfl, fun _ => (mlc_u (eop_go rfl rfl rfl rfl h_e_9) rfl), fun z => Bool.noConfusion z, rfl⟩)) h_ys_2) h_ys_3)) rfl) (rc rfl rfl) h_e_10) rfl), fun z => Bool.noConfusion z, rfl⟩)) h_ys_4) h_ys_5)) rfl) (oc rfl rfl) rfl h_v_9) ⟨((some v_5), (some v_6)), Or.inl rfl⟩
  · rintro _ ⟨⟨i__2, i__3⟩, rfl⟩
    show Wp ((_ : MS) [AV.d v, AV.d v_1, .un, AV.r false false v_10, sl i__2, sl i__3, .un, .un]) _
    replace h := Option.some.inj h; subst h
    exact wret rfl ⟨_, _, rfl, rfl, rfl⟩
noncomputable def u_count_wound (v : Da) (v_1 : Da) : Option (Da) :=
 (uC F_greatest_steps [AV.d v]).bind fun e =>
 (uC F_count_ends [AV.d e, AV.d v_1]).bind fun e_1 =>
 (fNeg (Da.int 1)).bind fun e_2 =>
 (fSubs e_1 e_2).bind fun e_3 =>
 (fSubs e_3 (Da.int 0)).bind fun e_4 =>
 some e_4
theorem tx_count_wound {v v_1 r : Da} (h : u_count_wound v v_1 = some r) : F_count_wound [AV.d v, AV.d v_1] = some (.one (.d r), [AV.d v, AV.d v_1]) := by
  unfold u_count_wound at h
  refine def_u rfl ?_
  show Wp (m_count_wound [AV.d v, AV.d v_1]) _
  unfold m_count_wound
  replace h := bse h; obtain ⟨e, h_e, h⟩ := h
  replace h := bse h; obtain ⟨e_1, h_e_1, h⟩ := h
  replace h := bse h; obtain ⟨e_2, h_e_2, h⟩ := h
  replace h := bse h; obtain ⟨e_3, h_e_3, h⟩ := h
  replace h := bse h; obtain ⟨e_4, h_e_4, h⟩ := h
  replace h := Option.some.inj h; subst h
  exact wret (eop_go (eop_go (call_u (asv := [AV.d e, AV.d v_1]) (acons_go (call_u (asv := [AV.d v]) (acons_go rfl rfl) rfl rfl h_e) (acons_go rfl rfl)) rfl rfl h_e_1) (un_u rfl rfl h_e_2) rfl rfl h_e_3) rfl rfl rfl h_e_4) (qr_one rfl rfl)
end Wo
namespace Wo
open PySem PySem.Spec PyProof.Rows L2 Gk Vm Mth
mutual
/-- no dict stands in it, its texts are sound -/
def layD : Da → Bool
  | .none => true
  | .bool _ => true
  | .int _ => true
  | .str s => PyData.strOk s
  | .list xs => layA xs
  | .tuple xs => layA xs
  | .dk _ => false
  | .dt _ => false
def layA : List Da → Bool
  | [] => true
  | x :: xs => layD x && layA xs
end
mutual
/-- no truth stands in it -/
def nbD : Da → Bool
  | .bool _ => false
  | .list xs => nbA xs
  | .tuple xs => nbA xs
  | _ => true
def nbA : List Da → Bool
  | [] => true
  | x :: xs => nbD x && nbA xs
end
mutual
def pyD : Da → PyData
  | .none => .none
  | .bool b => .bool b
  | .int i => .int i
  | .str s => .str s
  | .list xs => .list (pyA xs)
  | .tuple xs => .tuple (pyA xs)
  | .dk _ => .none
  | .dt _ => .none
def pyA : List Da → List PyData
  | [] => []
  | x :: xs => pyD x :: pyA xs
end
mutual
theorem toPy_lay : ∀ {x : Da}, layD x = true → toPy x = some (pyD x) ∧ (pyD x).canLay0 = true
  | .none, _ => ⟨rfl, rfl⟩
  | .bool _, _ => ⟨rfl, rfl⟩
  | .int _, _ => ⟨rfl, rfl⟩
  | .str s, h => ⟨rfl, h⟩
  | .list xs, h => by
    obtain ⟨h1, h2⟩ := toPys_lay (xs := xs) h
    exact ⟨by simp only [toPy]; rw [h1]; rfl, h2⟩
  | .tuple xs, h => by
    obtain ⟨h1, h2⟩ := toPys_lay (xs := xs) h
    exact ⟨by simp only [toPy]; rw [h1]; rfl, h2⟩
  | .dk _, h => by cases h
  | .dt _, h => by cases h
theorem toPys_lay : ∀ {xs : List Da}, layA xs = true → toPys xs = some (pyA xs) ∧ PyData.canLayAll0 (pyA xs) = true
  | [], _ => ⟨rfl, rfl⟩
  | x :: xs, h => by
    simp only [layA, Bool.and_eq_true] at h
    obtain ⟨h1, h2⟩ := toPy_lay h.1
    obtain ⟨h3, h4⟩ := toPys_lay h.2
    refine ⟨by simp only [toPys]; rw [h1, Option.bind_some, h3]; rfl, ?_⟩
    simp only [pyA, PyData.canLayAll0]
    rw [h2, h4]
    rfl
end
mutual
theorem eqv_lay : ∀ {x y : Da}, layD x = true → layD y = true → nbD x = true → nbD y = true → (PyData.eqv (pyD x) (pyD y) = true ↔ x = y)
  | .none, y, _, hy, _, ny => by cases y <;> first | (simp [pyD, PyData.eqv]; done) | (simp [nbD] at ny; done) | (simp [layD] at hy; done)
  | .bool _, y, _, _, h, _ => by cases h
  | .int i, y, _, hy, _, ny => by cases y <;> first | (simp [pyD, PyData.eqv]; done) | (simp [nbD] at ny; done) | (simp [layD] at hy; done)
  | .str s, y, _, hy, _, ny => by cases y <;> first | (simp [pyD, PyData.eqv]; done) | (simp [nbD] at ny; done) | (simp [layD] at hy; done)
  | .list xs, y, hx, hy, nx, ny => by
    cases y with
    | list ys =>
      have := eqvA_lay (xs := xs) (ys := ys) hx hy nx ny
      simp only [pyD, PyData.eqv]
      rw [this]
      exact ⟨fun h => by rw [h], fun h => by cases h; rfl⟩
    | _ => first | (simp [pyD, PyData.eqv]; done) | (simp [nbD] at ny; done) | (simp [layD] at hy; done)
  | .tuple xs, y, hx, hy, nx, ny => by
    cases y with
    | tuple ys =>
      have := eqvA_lay (xs := xs) (ys := ys) hx hy nx ny
      simp only [pyD, PyData.eqv]
      rw [this]
      exact ⟨fun h => by rw [h], fun h => by cases h; rfl⟩
    | _ => first | (simp [pyD, PyData.eqv]; done) | (simp [nbD] at ny; done) | (simp [layD] at hy; done)
  | .dk _, y, h, _, _, _ => by cases h
  | .dt _, y, h, _, _, _ => by cases h
theorem eqvA_lay : ∀ {xs ys : List Da}, layA xs = true → layA ys = true → nbA xs = true → nbA ys = true → (PyData.eqvAll (pyA xs) (pyA ys) = true ↔ xs = ys)
  | [], [], _, _, _, _ => by simp [pyA, PyData.eqvAll]
  | [], _ :: _, _, _, _, _ => by simp [pyA, PyData.eqvAll]
  | _ :: _, [], _, _, _, _ => by simp [pyA, PyData.eqvAll]
  | x :: xs, y :: ys, hx, hy, nx, ny => by
    simp only [layA, nbA, Bool.and_eq_true] at hx hy nx ny
    have h1 := eqv_lay hx.1 hy.1 nx.1 ny.1
    have h2 := eqvA_lay hx.2 hy.2 nx.2 ny.2
    simp only [pyA, PyData.eqvAll, Bool.and_eq_true]
    rw [h1, h2]
    exact ⟨fun h => by rw [h.1, h.2], fun h => by cases h; exact ⟨rfl, rfl⟩⟩
end
/-- may be compared -/
structure LayD (x : Da) (k : Nat) : Prop where
  ok : layD x = true
  dp : (pyD x).depth ≤ k
theorem layA_of : ∀ {xs : List Da}, (∀ x ∈ xs, layD x = true) → layA xs = true
  | [], _ => rfl
  | x :: xs, h => by
    simp only [layA]
    rw [h x (List.mem_cons_self ..), layA_of fun y m => h y (List.mem_cons_of_mem _ m)]
    rfl
theorem nbA_of : ∀ {xs : List Da}, (∀ x ∈ xs, nbD x = true) → nbA xs = true
  | [], _ => rfl
  | x :: xs, h => by
    simp only [nbA]
    rw [h x (List.mem_cons_self ..), nbA_of fun y m => h y (List.mem_cons_of_mem _ m)]
    rfl
theorem depA_of {k : Nat} : ∀ {xs : List Da}, (∀ x ∈ xs, (pyD x).depth ≤ k) → PyData.depthAll (pyA xs) ≤ k
  | [], _ => Nat.zero_le _
  | x :: xs, h => by
    have h1 := h x (List.mem_cons_self ..)
    have h2 := depA_of (xs := xs) fun y m => h y (List.mem_cons_of_mem _ m)
    simp only [pyA, PyData.depthAll]
    omega
theorem lay_tup {xs : List Da} {k : Nat} (h : ∀ x ∈ xs, LayD x k) : LayD (.tuple xs) (k + 1) := ⟨layA_of fun x m => (h x m).ok, by
  have := depA_of fun x m => (h x m).dp
  simp only [pyD, PyData.depth]
  omega⟩
theorem lay_list {xs : List Da} {k : Nat} (h : ∀ x ∈ xs, LayD x k) : LayD (.list xs) (k + 1) := ⟨layA_of fun x m => (h x m).ok, by
  have := depA_of fun x m => (h x m).dp
  simp only [pyD, PyData.depth]
  omega⟩
theorem LayD.mono {x : Da} {k m : Nat} (h : LayD x k) (hk : k ≤ m) : LayD x m := ⟨h.ok, Nat.le_trans h.dp hk⟩
theorem lay_str {s : Str} (h : PyData.strOk s = true) : LayD (.str s) 0 := ⟨h, Nat.le_refl _⟩
theorem LayD.sh {x : Da} {k : Nat} (h : LayD x k) (hk : k ≤ 64) : toPy x = some (pyD x) ∧ SeqAt.shaped (pyD x) = true := by
  obtain ⟨h1, h2⟩ := toPy_lay h.ok
  refine ⟨h1, ?_⟩
  unfold SeqAt.shaped
  rw [h2, decide_eq_true (Nat.le_trans h.dp hk)]
  rfl
open Classical in
theorem eqP_lay {x y : Da} {k m : Nat} (hx : LayD x k) (hy : LayD y m) (hk : k ≤ 64) (hm : m ≤ 64) (nx : nbD x = true) (ny : nbD y = true) : fEqP x y = some (decide (x = y)) := by
  have e : PyData.eqv (pyD x) (pyD y) = decide (x = y) := by
    rw [Bool.eq_iff_iff, eqv_lay hx.ok hy.ok nx ny, decide_eq_true_iff]
  unfold fEqP
  cases hs : strs2 x y with
  | some b =>
    obtain ⟨p, q, rfl, rfl, rfl⟩ := strs2_some hs
    have e : (p == q) = decide (Da.str p = Da.str q) := by
      rw [Bool.eq_iff_iff, beq_iff_eq, decide_eq_true_iff]
      exact ⟨fun h => by rw [h], fun h => by cases h; rfl⟩
    rw [Option.some_or, e]
  | none => rw [Option.none_or, (hx.sh hk).1, Option.bind_some, (hy.sh hm).1, Option.bind_some, if_pos ⟨(hx.sh hk).2, (hy.sh hm).2⟩, e]
open Classical in
theorem ne_lay {x y : Da} {k m : Nat} (hx : LayD x k) (hy : LayD y m) (hk : k ≤ 64) (hm : m ≤ 64) (nx : nbD x = true) (ny : nbD y = true) : fNeS x y = some (.bool (!decide (x = y))) := by
  unfold fNeS
  rw [eqP_lay hx hy hk hm nx ny]
  rfl
end Wo
namespace Wo
open PySem PySem.Spec PyProof.Rows L2 Gk Vm Mth
structure ShT (d : PyData) (k n : Nat) : Prop where
  ok : d.showable = true
  deep : d.depth ≤ k
  size : d.shown.length ≤ n
def ShY (x : Da) (k n : Nat) : Prop := ∃ d, toPyY x = some d ∧ ShT d k n
theorem ShY.mono {x : Da} {k n k' n' : Nat} (h : ShY x k n) (hk : k ≤ k') (hn : n ≤ n') : ShY x k' n' := let ⟨d, e, s⟩ := h; ⟨d, e, s.ok, Nat.le_trans s.deep hk, Nat.le_trans s.size hn⟩
end Wo
namespace Wo
open PySem PySem.Spec PyProof.Rows L2 Gk Vm Mth
def noDt (x : Da) : Prop := ∀ kvs, x ≠ .dt kvs
end Wo
namespace Wo
open PySem PySem.Spec PyProof.Rows L2 Gk Vm
end Wo
namespace Wo
open PySem PySem.Spec PyProof.Rows L2 Gk Vm Mth
end Wo
namespace Wo
open PySem PySem.Spec PyProof.Rows L2 Gk Vm Mth
end Wo
namespace Wo
open PySem PySem.Spec PyProof.Rows L2 Gk Vm Mth
end Wo
namespace Wo
open PySem PySem.Spec PyProof.Rows L2 Gk Vm Mth
structure AskOk (m : Nat) (ways : List Way) (goods : List Nat) (rows : List (Str × List Nat)) : Prop where
  m16 : m ≤ 16
  wnd : ways.Nodup
  wl : ways.length ≤ 60
  wb : ∀ x ∈ ways, x.1 < m ∧ x.2.2 < m
  gd : goods.Nodup ∧ ∀ g ∈ goods, g < m
  rn : (rows.map (·.1)).Nodup
  rf : (rows.flatMap (·.2)).Nodup
  rb : ∀ r ∈ rows, ∀ t ∈ r.2, t < m
  rl : rows.length ≤ 100
  cov : ∀ x ∈ ways, ∃ ts, (x.2.1, ts) ∈ rows ∧ x.2.2 ∈ ts
section
variable {n m : Nat} {posts : List PostS} {ways : List Way} {goods ends : List Nat} {rows : List (Str × List Nat)} {w : List Nat} {o : Option (List Nat)}
theorem row_in : ∀ {rows : List (Str × List Nat)}, (rows.flatMap (·.2)).Nodup → ∀ {r q : Str × List Nat} {t : Nat}, r ∈ rows → q ∈ rows → t ∈ r.2 → t ∈ q.2 → r = q
  | [], _, r, q, t, mr, _, _, _ => (List.not_mem_nil mr).elim
  | a :: rows, nd, r, q, t, mr, mq, tr, tq => by
    rw [List.flatMap_cons, List.nodup_append] at nd
    obtain ⟨_, n2, n3⟩ := nd
    rcases List.mem_cons.mp mr with e1 | mr2
    · rcases List.mem_cons.mp mq with e2 | mq2
      · rw [e1, e2]
      · exact (n3 t (e1 ▸ tr) t (List.mem_flatMap.mpr ⟨q, mq2, tq⟩) rfl).elim
    · rcases List.mem_cons.mp mq with e2 | mq2
      · exact (n3 t (e2 ▸ tq) t (List.mem_flatMap.mpr ⟨r, mr2, tr⟩) rfl).elim
      · exact row_in n2 mr2 mq2 tr tq
theorem AskOk.one (a : AskOk m ways goods rows) : ∀ w ∈ ways, ∀ v ∈ ways, w.1 = v.1 → w.2.2 = v.2.2 → w = v := by
  rintro ⟨s, R, t⟩ mw ⟨s', R', t'⟩ mv e1 e2
  dsimp only at e1 e2
  subst e1 e2
  obtain ⟨ts, m1, h1⟩ := a.cov _ mw
  obtain ⟨us, m2, h2⟩ := a.cov _ mv
  have := row_in a.rf m1 m2 h1 h2
  injection this with e3 _
  dsimp only at e3
  rw [e3]
def ArmA (ways : List Way) (M : List Pl) (p : PostS) (d : Nat) : Prop := d ∈ p.arms ∧ ∀ s t, (s, p.nm, t) ∈ ways → (d, t) ∈ M → (p.c, s) ∈ M
/-- the worst world, post by post -/
def WorstA (ways : List Way) (M : List Pl) : List PostS → List Nat → Prop
  | [], [] => True
  | p :: ps, d :: w => ArmA ways M p d ∧ WorstA ways M ps w
  | _, _ => False
theorem WorstA.zip {M : List Pl} : ∀ {posts : List PostS} {w : List Nat}, WorstA ways M posts w → ∀ x ∈ posts.zip w, ArmA ways M x.1 x.2
  | [], _, _, x, m => by simp at m
  | _ :: _, [], h, _, _ => h.elim
  | p :: ps, d :: w, h, x, m => by
    rw [List.zip_cons_cons] at m
    rcases List.mem_cons.mp m with rfl | m
    · exact h.1
    · exact WorstA.zip h.2 x m
end
end Wo
namespace Wo
open PySem PySem.Spec PyProof.Rows L2 Gk Vm Mth
section
variable {n n2 k : Nat} {posts posts2 : List PostS} {w : List Nat} {word : List Str} {names : List Str}
theorem at_last (xs : List Da) (x : Da) : atI (xs ++ [x]) (-1) = some x := by
  unfold atI ixN
  simp only [List.length_append, List.length_singleton]
  have h1 : ¬ (0 : Int) ≤ -1 := by omega
  have e1 : (-1 + ((xs.length + 1 : Nat) : Int)).toNat = xs.length := by omega
  rw [if_neg h1, if_pos (by omega), e1, Option.bind_some]
  simp
theorem last_l (xs : List Da) (x : Da) : fSubs (.list (xs ++ [x])) (.int (-1)) = some x := by
  show atI (xs ++ [x]) (-1) = _
  exact at_last xs x
theorem add_ll {xs ys : List Da} (h : xs.length + ys.length ≤ LIM) : fAdd (.list xs) (.list ys) = some (.list (xs ++ ys)) := if_pos h
theorem range_at : ∀ {done rest : List Nat} {c k : Nat}, done ++ c :: rest = List.range k → c = done.length ∧ c < k := by
  intro done rest c k h
  have h1 : (List.range k)[done.length]? = some c := by
    rw [← h, List.getElem?_append_right (Nat.le_refl _), Nat.sub_self]
    rfl
  have h2 : done.length < k := by
    have := congrArg List.length h
    rw [List.length_append, List.length_cons, List.length_range] at this
    omega
  rw [List.getElem?_range h2] at h1
  cases h1
  exact ⟨rfl, h2⟩
end
end Wo
namespace Wo
open PySem PySem.Spec PyProof.Rows L2 Gk Vm Mth
section
variable {n : Nat} {posts : List PostS} {w : List Nat} {word : List Str} {ends : List Nat} {rows : List (Str × List Nat)} {fs : List Fr}
def plLt (x y : Pl) : Bool := decide (x.1 < y.1) || (decide (x.1 = y.1) && decide (x.2 < y.2))
/-- tuples of pairs compared -/
def lexLt : List Pl → List Pl → Bool
  | [], [] => false
  | [], _ :: _ => true
  | _ :: _, [] => false
  | x :: L, y :: M => if x = y then lexLt L M else plLt x y
theorem winds_pw (p : Nat) : (windsL word p).Pairwise (· < ·) := by
  unfold windsL
  refine List.Pairwise.filter _ ?_
  rw [List.pairwise_map]
  exact List.Pairwise.imp (fun h => by omega) List.pairwise_lt_range
theorem goL_pw (p : Nat) : (goL word p).Pairwise (· < ·) := by
  unfold goL
  refine List.Pairwise.filter _ ?_
  rw [List.pairwise_append]
  exact ⟨winds_pw p, List.pairwise_singleton .., fun a ma b mb => by
    cases List.mem_singleton.mp mb
    exact (windsL_mem.mp ma).2.1⟩
end
end Wo
namespace Wo
open PySem PySem.Spec PyProof.Rows L2 Gk Vm Mth
section
variable {κ τ : Type} [DecidableEq κ]
theorem put_mem {L : List (κ × τ)} {k : κ} {v : τ} {x : κ × τ} (nd : (L.map (·.1)).Nodup) : x ∈ putD L k v ↔ x = (k, v) ∨ (x.1 ≠ k ∧ x ∈ L) := by
  unfold putD
  split
  · rename_i h
    obtain ⟨y, my, ey⟩ := List.any_eq_true.mp h
    have ey := of_decide_eq_true ey
    rw [List.mem_map]
    constructor
    · rintro ⟨z, mz, rfl⟩
      by_cases e : z.1 = k
      · rw [if_pos e]
        exact .inl (by rw [e])
      · rw [if_neg e]
        exact .inr ⟨e, mz⟩
    · rintro (rfl | ⟨h1, h2⟩)
      · exact ⟨y, my, by rw [if_pos ey, ey]⟩
      · exact ⟨x, h2, if_neg h1⟩
  · rename_i h
    rw [List.mem_append, List.mem_singleton]
    constructor
    · rintro (m | rfl)
      · refine .inr ⟨fun e => h ?_, m⟩
        exact List.any_eq_true.mpr ⟨x, m, decide_eq_true e⟩
      · exact .inl rfl
    · rintro (rfl | ⟨_, m⟩)
      · exact .inr rfl
      · exact .inl m
theorem put_keys {L : List (κ × τ)} {k : κ} {v : τ} (nd : (L.map (·.1)).Nodup) : ((putD L k v).map (·.1)).Nodup := by
  unfold putD
  split
  · rw [List.map_map]
    have : ((fun x : κ × τ => x.1) ∘ fun kv : κ × τ => if kv.1 = k then (kv.1, v) else kv) = fun x => x.1 := by
      funext x
      show (if x.1 = k then (x.1, v) else x).1 = x.1
      split <;> rfl
    rw [this]
    exact nd
  · rename_i h
    rw [List.map_append, List.nodup_append]
    refine ⟨nd, by simp, fun a ma b mb e => h ?_⟩
    obtain ⟨y, my, rfl⟩ := List.mem_map.mp ma
    have : b = k := by simpa using mb
    exact List.any_eq_true.mpr ⟨y, my, decide_eq_true (e.trans this)⟩
theorem mk_keys (es : List (κ × τ)) : ((mkD es).map (·.1)).Nodup := by
  have : ∀ (es acc : List (κ × τ)), (acc.map (·.1)).Nodup → ((es.foldl (fun acc kv => putD acc kv.1 kv.2) acc).map (·.1)).Nodup := by
    intro es
    induction es with
    | nil => exact fun acc h => h
    | cons x es ih => exact fun acc h => ih _ (put_keys h)
  exact this es [] .nil
theorem val_of_mem {L : List (κ × τ)} {k : κ} {v : τ} (nd : (L.map (·.1)).Nodup) (m : (k, v) ∈ L) : valA L k = some v := by
  induction L with
  | nil => exact (List.not_mem_nil m).elim
  | cons x L ih =>
    rw [List.map_cons, List.nodup_cons] at nd
    unfold valA
    rw [List.find?_cons]
    rcases List.mem_cons.mp m with rfl | m
    · rw [decide_eq_true rfl]
      rfl
    · have : x.1 ≠ k := fun e => nd.1 (List.mem_map.mpr ⟨_, m, e.symm⟩)
      rw [decide_eq_false this]
      exact ih nd.2 m
end
section
variable {κ : Type} [DecidableEq κ]
/-- the later one of a key stays: where these rise, the greatest -/
theorem mk_great : ∀ {es : List (κ × Nat)}, es.Pairwise (fun x y => x.2 < y.2) → ∀ x : κ × Nat, x ∈ mkD es ↔ x ∈ es ∧ ∀ y ∈ es, y.1 = x.1 → y.2 ≤ x.2 := by
  intro es
  have key : ∀ (n : Nat) (es : List (κ × Nat)), es.length = n → es.Pairwise (fun x y => x.2 < y.2) → ∀ x : κ × Nat, x ∈ mkD es ↔ x ∈ es ∧ ∀ y ∈ es, y.1 = x.1 → y.2 ≤ x.2 := by
    intro n
    induction n with
    | zero =>
      intro es e _ x
      rw [List.length_eq_zero_iff.mp e]
      exact ⟨fun m => (List.not_mem_nil m).elim, fun m => m.1⟩
    | succ n ih =>
      intro es e pw x
      obtain ⟨l, y, rfl⟩ : ∃ l y, es = l ++ [y] := by
        rcases List.eq_nil_or_concat es with h | ⟨l, y, h⟩
        · rw [h] at e; cases e
        · exact ⟨l, y, by rw [h, List.concat_eq_append]⟩
      rw [List.length_append, List.length_singleton] at e
      rw [List.pairwise_append] at pw
      obtain ⟨p1, _, p3⟩ := pw
      rw [mkD_snoc, put_mem (mk_keys l), ih l (by omega) p1]
      constructor
      · rintro (h | ⟨h1, h2, h3⟩)
        · rw [h]
          refine ⟨by simp, fun z mz ez => ?_⟩
          rcases List.mem_append.mp mz with m | m
          · exact Nat.le_of_lt (p3 z m y (List.mem_singleton.mpr rfl))
          · rw [List.mem_singleton.mp m]
            exact Nat.le_refl _
        · refine ⟨List.mem_append_left _ h2, fun z mz ez => ?_⟩
          rcases List.mem_append.mp mz with m | m
          · exact h3 z m ez
          · rw [List.mem_singleton.mp m] at ez
            exact (h1 ez.symm).elim
      · rintro ⟨m, h⟩
        rcases List.mem_append.mp m with m | m
        · by_cases ex : x.1 = y.1
          · have h1 := h y (by simp) ex.symm
            have h2 := p3 x m y (List.mem_singleton.mpr rfl)
            omega
          · exact .inr ⟨ex, m, fun z mz ez => h z (List.mem_append_left _ mz) ez⟩
        · rw [List.mem_singleton.mp m]
          exact .inl rfl
  exact key es.length es rfl
end
abbrev SN := Str × Nat
def strD (L : List SN) : List (Key × Da) := L.map fun x => (kS x.1, .int (x.2 : Int))
theorem strD_put (L : List SN) (s : Str) (t : Nat) : putD (strD L) (kS s) (.int (t : Int)) = strD (putD L s t) := by
  have e : ((strD L).any fun kv => decide (kv.1 = kS s)) = L.any fun kv => decide (kv.1 = s) := by
    unfold strD
    rw [List.any_map]
    refine List.any_congr rfl fun x => ?_
    show decide (kS x.1 = kS s) = decide (x.1 = s)
    rw [decide_eq_decide]
    exact ⟨kS_inj _ _, fun h => by rw [h]⟩
  unfold putD
  rw [e]
  split
  · unfold strD
    rw [List.map_map, List.map_map]
    refine List.map_congr_left fun x _ => ?_
    show (if kS x.1 = kS s then (kS x.1, Da.int (t : Int)) else (kS x.1, .int (x.2 : Int))) = _
    by_cases h : x.1 = s
    · rw [if_pos (by rw [h])]
      show _ = (kS (if x.1 = s then (x.1, t) else x).1, Da.int ((if x.1 = s then (x.1, t) else x).2 : Int))
      rw [if_pos h]
    · rw [if_neg (fun z => h (kS_inj _ _ z))]
      show _ = (kS (if x.1 = s then (x.1, t) else x).1, Da.int ((if x.1 = s then (x.1, t) else x).2 : Int))
      rw [if_neg h]
  · unfold strD
    rw [List.map_append]
    rfl
theorem strD_mk (es : List SN) : mkD (strD es) = strD (mkD es) := by
  have : ∀ (es acc : List SN), (strD es).foldl (fun acc kv => putD acc kv.1 kv.2) (strD acc) = strD (es.foldl (fun acc kv => putD acc kv.1 kv.2) acc) := by
    intro es
    induction es with
    | nil => exact fun acc => rfl
    | cons x es ih =>
      intro acc
      show (strD es).foldl _ (putD (strD acc) (kS x.1) (.int (x.2 : Int))) = _
      rw [strD_put]
      exact ih _
  exact this es []
theorem val_strD (L : List SN) (s : Str) : valA (strD L) (kS s) = (valA L s).map fun t : Nat => Da.int (t : Int) := by
  induction L with
  | nil => rfl
  | cons x L ih =>
    unfold valA strD at ih ⊢
    rw [List.map_cons, List.find?_cons, List.find?_cons]
    by_cases h : x.1 = s
    · rw [decide_eq_true h]
      dsimp only
      rw [decide_eq_true (show kS x.1 = kS s by rw [h])]
      rfl
    · rw [decide_eq_false h]
      dsimp only
      rw [decide_eq_false (fun z => h (kS_inj _ _ z))]
      exact ih
def leS (a b : Str) : Bool := PySem.W.dataLe false kPy (.inr a) (.inr b)
def sortSt (bs : List Str) : List Str := bs.mergeSort leS
theorem sortSt_perm (bs : List Str) : (sortSt bs).Perm bs := List.mergeSort_perm ..
theorem sortSt_pw (bs : List Str) : (sortSt bs).Pairwise (fun a b => leS a b = true) :=
  List.pairwise_mergeSort (le := leS) (fun a b c h1 h2 => (dle_total kPy).trans _ _ _ h1 h2) (fun a b => by
    rw [Bool.or_eq_true]
    exact (dle_total kPy).total _ _) bs
theorem sortK_st (bs : List Str) : sortK (bs.map kS) = (sortSt bs).map kS := by
  unfold sortK sortSt
  exact merge_map ..
theorem sort_dict {es : List (Key × Da)} {bs : List Str} (h : es.map (·.1) = bs.map kS) : uSortDK [.dk es] = some ((sortSt bs).map Da.str) := by
  unfold uSortDK
  dsimp only
  rw [h, if_pos (kPy_strs bs), sortK_st, List.map_map]
  rfl
variable {word : List Str}
/-- the name and the place behind it of each place by which one may go -/
def prsL (word : List Str) (p : Nat) : List SN := (goL word p).map fun a => ((word[a]?).getD (Str.ofString ""), a + 1)
/-- the steps from a place: of each name, rising, where it leads at the greatest -/
def stepS (word : List Str) (p : Nat) : List SN := (sortSt ((mkD (prsL word p)).map (·.1))).map fun s => (s, (valA (mkD (prsL word p)) s).getD 0)
theorem stepS_perm (p : Nat) : (stepS word p).Perm (mkD (prsL word p)) := by
  unfold stepS
  have h := (sortSt_perm ((mkD (prsL word p)).map (·.1))).map fun s => (s, (valA (mkD (prsL word p)) s).getD 0)
  refine h.trans (List.Perm.of_eq ?_)
  rw [List.map_map]
  have : ∀ x ∈ mkD (prsL word p), (fun s => (s, (valA (mkD (prsL word p)) s).getD 0)) x.1 = x := fun x m => by
    dsimp only
    rw [val_of_mem (mk_keys _) (show (x.1, x.2) ∈ _ from m)]
    rfl
  conv => rhs; rw [← List.map_id (mkD (prsL word p))]
  exact List.map_congr_left this
theorem prs_pw (p : Nat) : (prsL word p).Pairwise (fun x y => x.2 < y.2) := by
  unfold prsL
  rw [List.pairwise_map]
  exact (goL_pw p).imp fun h => Nat.succ_lt_succ h
theorem stepS_mem {p : Nat} {s : Str} {t : Nat} : (s, t) ∈ stepS word p ↔ ∃ a ∈ goL word p, word[a]? = some s ∧ t = a + 1 ∧ ∀ b ∈ goL word p, word[b]? = some s → b ≤ a := by
  have nm : ∀ {a : Nat}, a ∈ goL word p → word[a]? = some ((word[a]?).getD (Str.ofString "")) := fun {a} m => by
    rw [List.getElem?_eq_getElem (goL_mem.mp m).2]
    rfl
  rw [(stepS_perm p).mem_iff, mk_great (prs_pw p)]
  unfold prsL
  constructor
  · rintro ⟨m, h⟩
    obtain ⟨a, ma, e⟩ := List.mem_map.mp m
    cases e
    refine ⟨a, ma, nm ma, rfl, fun b mb eb => ?_⟩
    have := h _ (List.mem_map.mpr ⟨b, mb, rfl⟩) (by rw [eb]; rfl)
    exact Nat.le_of_succ_le_succ this
  · rintro ⟨a, ma, e, rfl, h⟩
    refine ⟨List.mem_map.mpr ⟨a, ma, by rw [e]; rfl⟩, fun y my ey => ?_⟩
    obtain ⟨b, mb, rfl⟩ := List.mem_map.mp my
    refine Nat.succ_le_succ (h b mb ?_)
    rw [nm mb]
    exact congrArg some ey
theorem stepS_keys (p : Nat) : ((stepS word p).map (·.1)).Nodup := ((stepS_perm p).map _).nodup_iff.mpr (mk_keys _)
theorem stepS_le {p : Nat} {x : SN} (h : x ∈ stepS word p) : x.2 ≤ word.length := by
  obtain ⟨a, ma, e, e2, _⟩ := stepS_mem.mp (show (x.1, x.2) ∈ _ from h)
  have := (goL_mem.mp ma).2
  omega
def stepsT (word : List Str) : Da := .list ((List.range (word.length + 1)).map fun p => .dk (strD (stepS word p)))
theorem goL_len (p : Nat) (h : p ≤ word.length) : (goL word p).length ≤ word.length + 1 := by
  unfold goL
  refine Nat.le_trans (List.length_filter_le ..) ?_
  have := windsL_len (word := word) (p := p)
  rw [List.length_append, List.length_singleton]
  omega
theorem great_n (hl : word.length ≤ 1000) : uC F_greatest_steps [.d (wordT word)] = some (stepsT word) := by
  have lim : LIM = 1000000 := rfl
  refine uC_of (v := .one (.w (.r (stepsT word)))) (tx_greatest_steps ?_)
  unfold u_greatest_steps
  rw [len_word, Option.bind_some, add_1, Option.bind_some, rg1_n (by omega), Option.bind_some]
  obtain ⟨s', e, hs⟩ := forU_inv (e := fun p : Nat => Da.int (p : Int)) (L := List.range (word.length + 1)) (s := Da.list [])
    (f := fun place (steps_1 : Da) =>
      (uC F_going_places [AV.d (wordT word), AV.d place]).bind fun e_2 =>
      (iterU e_2).bind fun xs_1 =>
      (flatU (fun at_ =>
      (fSubs (wordT word) at_).bind fun e_3 =>
      (fAdd at_ (Da.int 1)).bind fun e_4 =>
      (keyD e_3).bind fun k =>
      some [(k, e_4)]) xs_1).bind fun ys =>
      (limU ys).bind fun ys_1 =>
      (some (Da.dk (mkD ys_1))).bind fun leads =>
      (uSortDK [leads]).bind fun ys_2 =>
      (iterU (Da.list ys_2)).bind fun xs_2 =>
      (flatU (fun name =>
      (fSubs leads name).bind fun e_5 =>
      (keyD name).bind fun k_1 =>
      some [(k_1, e_5)]) xs_2).bind fun ys_3 =>
      (limU ys_3).bind fun ys_4 =>
      (appU steps_1 (Da.dk (mkD ys_4))).bind fun steps_2 =>
      some steps_2)
    (fun done s => s = .list (done.map fun p => Da.dk (strD (stepS word p)))) rfl (fun done p rest s ed hj => by
      subst hj
      have hp : p < word.length + 1 := by
        have : p ∈ List.range (word.length + 1) := by rw [← ed]; simp
        exact List.mem_range.mp this
      have dl : done.length < word.length + 1 := by
        have := congrArg List.length ed
        rw [List.length_append, List.length_cons, List.length_range] at this
        omega
      have gl := goL_len (word := word) p (by omega)
      refine ⟨_, ?_, rfl⟩
      rw [goings_n (by omega) hl, Option.bind_some, iter_nats, Option.bind_some, flatU_1 (g := fun a : Nat => (kS ((word[a]?).getD (Str.ofString "")), Da.int ((a + 1 : Nat) : Int))) (fun a ma => by
        obtain ⟨_, hal⟩ := goL_mem.mp ma
        rw [word_at (List.getElem?_eq_getElem hal), Option.bind_some, add_1, Option.bind_some, List.getElem?_eq_getElem hal]
        rfl), Option.bind_some, limU_ok (by rw [List.length_map]; omega), Option.bind_some]
      have e1 : ((goL word p).map fun a : Nat => (kS ((word[a]?).getD (Str.ofString "")), Da.int ((a + 1 : Nat) : Int))) = strD (prsL word p) := by
        unfold strD prsL
        rw [List.map_map]
        rfl
      have ml : (mkD (prsL word p)).length ≤ word.length + 1 := by
        have h1 := (List.Nodup.length_le_of_subset (mk_keys (prsL word p)) (l₂ := (prsL word p).map (·.1)) (fun x mx => by
          obtain ⟨y, my, rfl⟩ := List.mem_map.mp mx
          exact List.mem_map.mpr ⟨y, ((mk_great (prs_pw p) y).mp my).1, rfl⟩))
        rw [List.length_map, List.length_map] at h1
        unfold prsL at h1 ⊢
        rw [List.length_map] at h1
        omega
      rw [e1, Option.bind_some, strD_mk, sort_dict (bs := (mkD (prsL word p)).map (·.1)) (by unfold strD; rw [List.map_map, List.map_map]; rfl), Option.bind_some, it_l, Option.bind_some]
      have sp := sortSt_perm ((mkD (prsL word p)).map (·.1))
      rw [flatU_1 (g := fun s : Str => (kS s, Da.int (((valA (mkD (prsL word p)) s).getD 0 : Nat) : Int))) (fun s ms => by
        obtain ⟨y, my, ey⟩ := List.mem_map.mp (sp.mem_iff.mp ms)
        have v := val_of_mem (mk_keys (prsL word p)) (show (y.1, y.2) ∈ _ from my)
        rw [ey] at v
        have : fSubs (.dk (strD (mkD (prsL word p)))) (.str s) = some (.int (y.2 : Int)) := by
          have : fSubs (.dk (strD (mkD (prsL word p)))) (.str s) = (lookD (.dk (strD (mkD (prsL word p)))) (.str s)).bind id := if_pos rfl
          rw [this]
          show (some (valA (strD (mkD (prsL word p))) (kS s))).bind id = _
          rw [val_strD, v]
          rfl
        rw [this, Option.bind_some, v]
        rfl), Option.bind_some, limU_ok (by rw [List.length_map, sp.length_eq, List.length_map]; omega), Option.bind_some]
      have e2 : ((sortSt ((mkD (prsL word p)).map (·.1))).map fun s : Str => (kS s, Da.int (((valA (mkD (prsL word p)) s).getD 0 : Nat) : Int))) = strD (stepS word p) := by
        unfold strD stepS
        rw [List.map_map]
        rfl
      rw [e2, mkD_nodup (by unfold strD; rw [List.map_map]; have := List.Pairwise.map (S := fun a b : Key => a ≠ b) kS (fun a b h e => h (kS_inj _ _ e)) (stepS_keys (word := word) p); rw [List.map_map] at this; exact this), show appU (.list (done.map fun p => Da.dk (strD (stepS word p)))) (.dk (strD (stepS word p))) = some (.list (done.map (fun p => Da.dk (strD (stepS word p))) ++ [.dk (strD (stepS word p))])) from if_pos (by rw [List.length_map]; omega), Option.bind_some, List.map_append]
      rfl)
  rw [e, Option.bind_some, hs]
  rfl
/-- how many rows of so many names lead from a place to the end -/
def cntR (word : List Str) : Nat → Nat → Nat
  | 0, p => if p = word.length then 1 else 0
  | k + 1, p => ((stepS word p).map fun x => cntR word k x.2).sum
def cntT (word : List Str) (k : Nat) : Da := .list ((List.range (word.length + 1)).map fun p => .int (cntR word k p : Int))
theorem ints_sum : ∀ L : List Nat, fSum [.list (L.map fun n : Nat => Da.int (n : Int))] = some (.int (L.sum : Int)) := by
  have h1 : ∀ L : List Nat, intsU (L.map fun n : Nat => Da.int (n : Int)) = some (L.map fun n : Nat => (n : Int)) := by
    intro L
    induction L with
    | nil => rfl
    | cons x L ih =>
      rw [List.map_cons]
      unfold intsU
      rw [ih]
      rfl
  have h2 : ∀ L : List Nat, (L.map fun n : Nat => (n : Int)).sum = (L.sum : Int) := by
    intro L
    induction L with
    | nil => rfl
    | cons x L ih => rw [List.map_cons, List.sum_cons, List.sum_cons, ih]; rfl
  intro L
  unfold fSum
  dsimp only
  rw [h1, Option.bind_some, h2]
theorem ends_n {size : Nat} (hl : word.length ≤ 1000) (hs : size ≤ 10000) : uC F_count_ends [.d (stepsT word), .d (.int (size : Int))] = some (.list ((List.range (size + 1)).map fun k => cntT word k)) := by
  have lim : LIM = 1000000 := rfl
  refine uC_of (v := .one (.w (.r (.list ((List.range (size + 1)).map fun k => cntT word k))))) (tx_count_ends ?_)
  unfold u_count_ends stepsT
  rw [len_l, Option.bind_some, List.length_map, List.length_range, rg1_n (by omega), Option.bind_some]
  rw [flatU_1 (g := fun p : Nat => Da.int (cntR word 0 p : Int)) (fun p mp => by
    rw [show fGe (.int (size : Int)) (.int 0) = some (.bool true) by rw [ge_i, decide_eq_true (by omega)], Option.bind_some, asB_b, Option.bind_some, cond_true, Option.bind_some, sub_i, show (((word.length + 1 : Nat) : Int) - 1) = (word.length : Int) by omega, Option.bind_some, eq_n, Option.bind_some, Option.bind_some]
    unfold fInt cntR
    by_cases h : p = word.length
    · rw [beq_iff_eq.mpr h, if_pos h]; rfl
    · rw [beq_eq_false_iff_ne.mpr h, if_neg h]; rfl), Option.bind_some, limU_ok (by rw [List.length_map, List.length_range]; omega), Option.bind_some, rg1_n (by omega), Option.bind_some]
  obtain ⟨s', e, hs⟩ := forU_inv (e := fun p : Nat => Da.int (p : Int)) (L := List.range size) (s := Da.list [cntT word 0])
    (f := fun more (counts_1 : Da) =>
      (fSubs counts_1 more).bind fun ahead =>
      (iterU (Da.list ((List.range (word.length + 1)).map fun p => .dk (strD (stepS word p))))).bind fun xs_2 =>
      (flatU (fun leads =>
      (valsOf leads).bind fun xs_3 =>
      (flatU (fun to =>
      (fSubs ahead to).bind fun e_9 =>
      some [e_9]) xs_3).bind fun ys_2 =>
      (limU ys_2).bind fun ys_3 =>
      (fSum [(Da.list ys_3)]).bind fun e_10 =>
      some [e_10]) xs_2).bind fun ys_4 =>
      (limU ys_4).bind fun ys_5 =>
      (appU counts_1 (Da.list ys_5)).bind fun counts_2 =>
      some counts_2)
    (fun done s => s = .list ((List.range (done.length + 1)).map fun k => cntT word k)) rfl (fun done m rest s ed hj => by
      subst hj
      obtain ⟨rfl, dl⟩ := range_at ed
      refine ⟨_, ?_, rfl⟩
      rw [show fSubs (.list ((List.range (done.length + 1)).map fun k => cntT word k)) (.int (done.length : Int)) = some (cntT word done.length) from ixl (by rw [List.getElem?_map, List.getElem?_range (Nat.lt_succ_self _)]; rfl), Option.bind_some, it_l, Option.bind_some]
      rw [flatU_1 (g := fun p : Nat => Da.int (cntR word (done.length + 1) p : Int)) (fun p mp => by
        have sl : (stepS word p).length ≤ word.length + 1 := by
          have h1 := List.Nodup.length_le_of_subset (stepS_keys (word := word) p) (l₂ := word) (fun x mx => by
            obtain ⟨y, my, rfl⟩ := List.mem_map.mp mx
            obtain ⟨a, ma, e, _⟩ := stepS_mem.mp (show (y.1, y.2) ∈ _ from my)
            exact List.mem_of_getElem? e)
          rw [List.length_map] at h1
          omega
        rw [show valsOf (.dk (strD (stepS word p))) = some ((stepS word p).map fun x => Da.int (x.2 : Int)) by unfold valsOf strD; dsimp only; rw [List.map_map]; rfl, Option.bind_some, flatU_1 (g := fun x : SN => Da.int (cntR word done.length x.2 : Int)) (fun x mx => by
          have := stepS_le mx
          rw [show fSubs (cntT word done.length) (.int (x.2 : Int)) = some (.int (cntR word done.length x.2 : Int)) from ixl (by rw [List.getElem?_map, List.getElem?_range (by omega)]; rfl), Option.bind_some]), Option.bind_some, limU_ok (by rw [List.length_map]; omega), Option.bind_some]
        rw [show ((stepS word p).map fun x : SN => Da.int (cntR word done.length x.2 : Int)) = ((stepS word p).map fun x => cntR word done.length x.2).map (fun n : Nat => Da.int (n : Int)) by rw [List.map_map]; rfl, ints_sum, Option.bind_some]
        rfl), Option.bind_some, limU_ok (by rw [List.length_map, List.length_range]; omega), Option.bind_some, show appU (.list ((List.range (done.length + 1)).map fun k => cntT word k)) (.list ((List.range (word.length + 1)).map fun p => .int (cntR word (done.length + 1) p : Int))) = some (.list (((List.range (done.length + 1)).map fun k => cntT word k) ++ [cntT word (done.length + 1)])) from if_pos (by rw [List.length_map, List.length_range]; omega), Option.bind_some, List.length_append, List.length_singleton, List.range_succ (n := done.length + 1), List.map_append]
      rfl)
  rw [List.length_range] at hs
  exact (congrArg (fun o : Option Da => o.bind fun counts_3 => some counts_3) e).trans (by rw [Option.bind_some, hs])
theorem count_n {size : Nat} (hl : word.length ≤ 1000) (hs : size ≤ 10000) : uC F_count_wound [.d (wordT word), .d (.int (size : Int))] = some (.int (cntR word size 0 : Int)) := by
  refine uC_of (v := .one (.d _)) (tx_count_wound ?_)
  unfold u_count_wound
  rw [great_n hl, Option.bind_some, ends_n hl hs, Option.bind_some, show fNeg (.int 1) = some (.int (-1)) from rfl, Option.bind_some, List.range_succ, List.map_append, show fSubs (.list (((List.range size).map fun k => cntT word k) ++ [size].map fun k => cntT word k)) (.int (-1)) = some (cntT word size) from last_l _ _, Option.bind_some, show fSubs (cntT word size) (.int 0) = some (.int (cntR word size 0 : Int)) from ixl (k := 0) (by rw [List.getElem?_map, List.getElem?_range (by omega)]; rfl), Option.bind_some]
end Wo
namespace Wo
open PySem PySem.Spec PyProof.Rows L2 Gk Vm Mth
def rowsG (word : List Str) : Nat → Nat → List (List Str)
  | 0, p => if p = word.length then [[]] else []
  | k + 1, p => (stepS word p).flatMap fun x => (rowsG word k x.2).map (x.1 :: ·)
theorem rowsG_len (word : List Str) : ∀ k p, (rowsG word k p).length = cntR word k p
  | 0, p => by
    unfold rowsG cntR
    split <;> rfl
  | k + 1, p => by
    unfold rowsG cntR
    rw [List.length_flatMap]
    congr 1
    apply List.map_congr_left
    intro x _
    rw [List.length_map, rowsG_len word k x.2]
theorem rowsG_size (word : List Str) : ∀ k p, ∀ row ∈ rowsG word k p, row.length = k
  | 0, p, row, m => by
    unfold rowsG at m
    split at m
    · rw [List.mem_singleton.mp m]; rfl
    · cases m
  | k + 1, p, row, m => by
    unfold rowsG at m
    obtain ⟨x, _, m⟩ := List.mem_flatMap.mp m
    obtain ⟨r, mr, rfl⟩ := List.mem_map.mp m
    rw [List.length_cons, rowsG_size word k x.2 r mr]
/-- which step the so-manieth row goes by, and which one it is there -/
def fst1 {β : Type} (cnt : β → Nat) : List β → Nat → Option (β × Nat)
  | [], _ => none
  | x :: r, i => if i < cnt x then some (x, i) else fst1 cnt r (i - cnt x)
theorem flat_at {β γ : Type} (f : β → List γ) : ∀ (L : List β) (i : Nat), (L.flatMap f)[i]? = (fst1 (fun x => (f x).length) L i).bind fun y => (f y.1)[y.2]?
  | [], i => rfl
  | x :: r, i => by
    rw [List.flatMap_cons]
    unfold fst1
    split
    · rename_i h
      rw [List.getElem?_append_left h]
      rfl
    · rename_i h
      rw [List.getElem?_append_right (by omega), flat_at f r]
theorem rowsG_at (word : List Str) (k p i : Nat) : (rowsG word (k + 1) p)[i]? = (fst1 (fun x : SN => cntR word k x.2) (stepS word p) i).bind fun y => ((rowsG word k y.1.2)[y.2]?).map (y.1.1 :: ·) := by
  show ((stepS word p).flatMap fun x => (rowsG word k x.2).map (x.1 :: ·))[i]? = _
  rw [flat_at]
  have e : (fun x : SN => ((rowsG word k x.2).map (x.1 :: ·)).length) = fun x : SN => cntR word k x.2 := by
    funext x
    rw [List.length_map, rowsG_len]
  rw [e]
  congr 1
  funext y
  rw [List.getElem?_map]
end Wo
namespace K04
open PySem PySem.Spec PyProof.Rows L2 Gk Vm Wo
section
variable {word : List Str} {k : Nat}
theorem cnt_at {p : Nat} (h : p ≤ word.length) : fSubs (cntT word k) (.int (p : Int)) = some (.int (cntR word k p : Int)) := by
  unfold cntT
  exact ixl (by rw [List.getElem?_map, List.getElem?_range (by omega)]; rfl)
theorem first_loop {y : SN × Nat} : ∀ (L : List SN) (i : Nat), (∀ x ∈ L, x.2 ≤ word.length) → fst1 (fun x : SN => cntR word k x.2) L i = some y →
    forE (ρ := Da) (fun q (ahead : Da) => (un2 q).bind fun (name, to) => (fSubs (cntT word k) to).bind fun e => (fLtA ahead e).bind fun e_1 => (asB e_1).bind fun t => cond t (some (.rt (Da.tuple [name, to, ahead]))) ((fSubs (cntT word k) to).bind fun e_2 => (fSub ahead e_2).bind fun ahead_1 => some (.nx ahead_1)))
      (L.map fun x : SN => Da.tuple [.str x.1, .int (x.2 : Int)]) (.int (i : Int)) = some (.rt (Da.tuple [.str y.1.1, .int (y.1.2 : Int), .int (y.2 : Int)]))
  | [], i, _, h => by cases h
  | x :: r, i, hL, h => by
    rw [List.map_cons]
    unfold forE
    unfold fst1 at h
    rw [un2_t, Option.bind_some]
    dsimp only
    rw [cnt_at (hL x (List.mem_cons_self ..)), Option.bind_some, ltA_n, Option.bind_some, asB_b, Option.bind_some]
    split at h
    · rename_i c
      cases h
      rw [decide_eq_true c, cond_true]
      rfl
    · rename_i c
      rw [decide_eq_false c, cond_false, Option.bind_some, show fSub (.int (i : Int)) (.int (cntR word k x.2 : Int)) = some (.int ((i - cntR word k x.2 : Nat) : Int)) by
        show some (Da.int ((i : Int) - (cntR word k x.2 : Int))) = _
        congr 2
        omega, Option.bind_some, Option.bind_some]
      exact first_loop r _ (fun z m => hL z (List.mem_cons_of_mem _ m)) h
theorem first_n {L : List SN} {i : Nat} {y : SN × Nat} (hL : ∀ x ∈ L, x.2 ≤ word.length) (h : fst1 (fun x : SN => cntR word k x.2) L i = some y) :
    uC F_first_step [.d (.dk (strD L)), .d (cntT word k), .d (.int (i : Int))] = some (.tuple [.str y.1.1, .int (y.1.2 : Int), .int (y.2 : Int)]) := by
  refine uC_of (v := .one (.d _)) (tx_first_step ?_)
  unfold u_first_step
  rw [show itemsOf (.dk (strD L)) = some (L.map fun x : SN => Da.tuple [.str x.1, .int (x.2 : Int)]) by
    unfold strD
    show some (List.map _ (List.map _ L)) = _
    rw [List.map_map]
    rfl, Option.bind_some, first_loop L i hL h, Option.bind_some]
  rfl
theorem steps_at {p : Nat} (h : p ≤ word.length) : fSubs (stepsT word) (.int (p : Int)) = some (.dk (strD (stepS word p))) := by
  unfold stepsT
  exact ixl (by rw [List.getElem?_map, List.getElem?_range (by omega)]; rfl)
theorem at_loop : ∀ (n p i : Nat) (row : List Str) (acc : List Da), p ≤ word.length → acc.length + n ≤ 1000 → (rowsG word n p)[i]? = some row →
    ∃ q j : Nat, forU (fun ends ((row_1, place_1, left) : Da × Da × Da) => (fSubs (stepsT word) place_1).bind fun e_9 => (uC F_first_step [AV.d e_9, AV.d ends, AV.d left]).bind fun e_10 => (un3 e_10).bind fun (name, place_2, left_1) => (appU row_1 name).bind fun row_2 => some (row_2, place_2, left_1))
      ((List.range n).reverse.map fun k => cntT word k) (Da.list acc, Da.int (p : Int), Da.int (i : Int)) = some (Da.list (acc ++ row.map Da.str), Da.int (q : Int), Da.int (j : Int))
  | 0, p, i, row, acc, hp, hl, h => by
    have : row = [] := by
      have := rowsG_size word 0 p row (List.mem_of_getElem? h)
      exact List.length_eq_zero_iff.mp this
    subst this
    exact ⟨p, i, by rw [List.map_nil, List.append_nil]; rfl⟩
  | n + 1, p, i, row, acc, hp, hl, h => by
    rw [rowsG_at] at h
    obtain ⟨y, e1, h⟩ := Option.bind_eq_some_iff.mp h
    obtain ⟨r, e2, rfl⟩ := Option.map_eq_some_iff.mp h
    have my : y.1 ∈ stepS word p := by
      have lt : ∀ (L : List SN) (i : Nat), fst1 (fun x : SN => cntR word n x.2) L i = some y → y.1 ∈ L := by
        intro L
        induction L with
        | nil => intro i e; cases e
        | cons x L ih =>
          intro i e
          unfold fst1 at e
          split at e
          · cases e; exact List.mem_cons_self ..
          · exact List.mem_cons_of_mem _ (ih _ e)
      exact lt _ _ e1
    obtain ⟨q, j, e3⟩ := at_loop n y.1.2 y.2 r (acc ++ [Da.str y.1.1]) (stepS_le my) (by rw [List.length_append]; show acc.length + 1 + n ≤ 1000; omega) e2
    refine ⟨q, j, ?_⟩
    rw [List.range_succ, List.reverse_append, List.reverse_singleton, List.singleton_append, List.map_cons]
    unfold forU
    dsimp only
    rw [steps_at hp, Option.bind_some, first_n (fun x m => stepS_le m) e1, Option.bind_some, un3_t, Option.bind_some]
    dsimp only
    rw [show appU (Da.list acc) (Da.str y.1.1) = some (Da.list (acc ++ [Da.str y.1.1])) from if_pos (show acc.length < LIM by have lim : LIM = 1000000 := rfl; omega), Option.bind_some, Option.bind_some, e3, List.map_cons, List.append_assoc, List.singleton_append]
theorem cut_lf {xs : List Da} {x : Da} : fSl none (some (-1)) (.list (xs ++ [x])) = some (.list xs) := by
  show some (Da.list (cutD (xs ++ [x]) none (some (-1)))) = _
  congr 2
  unfold Vm.cutD
  have e : HT.sIx (xs ++ [x]).length (xs ++ [x]).length (some (-1)) = xs.length := by
    have hl : (xs ++ [x]).length = xs.length + 1 := by rw [List.length_append]; rfl
    rw [hl]
    unfold HT.sIx
    simp
    omega
  rw [e, HT.sIx_none]
  simp
theorem wound_at_n {size i : Nat} {row : List Str} (hl : word.length ≤ 900) (hs : size ≤ 900) (h : (rowsG word size 0)[i]? = some row) : uC F_wound_at [.d (wordT word), .d (.int (size : Int)), .d (.int (i : Int))] = some (wordT row) := by
  have hi : i < cntR word size 0 := by
    rw [← rowsG_len]
    exact (List.getElem?_eq_some_iff.mp h).1
  refine uC_of (v := .one (.d _)) (tx_wound_at ?_)
  unfold u_wound_at
  rw [great_n (by omega), Option.bind_some, ends_n (by omega) (by omega), Option.bind_some, is_whole_n, Option.bind_some, tru_b, Bool.not_true, cond_false, show fNeg (.int 1) = some (.int (-1)) from rfl, Option.bind_some, List.range_succ, List.map_append,
    show fSubs (.list (((List.range size).map fun k => cntT word k) ++ [size].map fun k => cntT word k)) (.int (-1)) = some (cntT word size) from last_l _ _, Option.bind_some, show fSubs (cntT word size) (.int 0) = some (.int (cntR word size 0 : Int)) from cnt_at (p := 0) (Nat.zero_le _), Option.bind_some,
    show chainU fLe fLt (Da.int 0) (.int (i : Int)) (.int (cntR word size 0 : Int)) = some (.bool true) by
      show cond (decide ((0 : Int) ≤ (i : Int))) (some (Da.bool (decide ((i : Int) < (cntR word size 0 : Int))))) (some (.bool false)) = _
      rw [decide_eq_true (by omega), decide_eq_true (by omega)]; rfl, Option.bind_some, asB_b, Option.bind_some, Bool.not_true, Option.bind_some, cond_false, Option.bind_some, Option.bind_some, asI_i, Option.bind_some,
    show fSl none (some (-1)) (.list (((List.range size).map fun k => cntT word k) ++ [size].map fun k => cntT word k)) = some (.list ((List.range size).map fun k => cntT word k)) from cut_lf, Option.bind_some, show revU (.list ((List.range size).map fun k => cntT word k)) = some ((List.range size).reverse.map fun k => cntT word k) by rw [List.map_reverse]; rfl, Option.bind_some]
  obtain ⟨q, j, e⟩ := at_loop size 0 i row [] (Nat.zero_le _) (by show 0 + size ≤ 1000; omega) h
  rw [show forU _ _ (Da.list [], Da.int 0, Da.int (i : Int)) = _ from e, Option.bind_some]
  rfl
end
end K04
namespace K04
open PySem PySem.Spec PyProof.Rows L2 Gk Vm Wo
section
variable {word : List Str} {size : Nat}
def noNum (t : Da) : Xd := ⟨"NoNumber", [("number", t)]⟩
theorem whole_i (m : Int) : uC F_is_whole [.d (.int m)] = some (.bool true) := uC_of (v := .one (.d _)) (tx_is_whole (r := .bool true) rfl)
theorem none_x {m : Int} (hl : word.length ≤ 900) (hs : size ≤ 900) (h : m < 0 ∨ (cntR word size 0 : Int) ≤ m) : g_wound_at [wordT word, .int (size : Int), .int m] = some (noNum (.int m)) := by
  obtain ⟨C, hC⟩ : ∃ C : Da, C = .list ((List.range (size + 1)).map fun k => cntT word k) := ⟨_, rfl⟩
  have c1 : uC F_count_ends [.d (stepsT word), .d (.int (size : Int))] = some C := by rw [hC]; exact ends_n (by omega) (by omega)
  have c2 : fSubs C (.int (-1)) = some (cntT word size) := by
    rw [hC, List.range_succ, List.map_append]
    exact last_l _ _
  have c3 : fSubs (cntT word size) (.int 0) = some (.int (cntR word size 0 : Int)) := cnt_at (p := 0) (Nat.zero_le _)
  have ch : chainU fLe fLt (Da.int 0) (.int m) (.int (cntR word size 0 : Int)) = some (.bool false) := by
    show cond (decide ((0 : Int) ≤ m)) (some (Da.bool (decide (m < (cntR word size 0 : Int))))) (some (.bool false)) = _
    rcases h with h | h
    · rw [decide_eq_false (by omega)]; rfl
    · rw [decide_eq_false (show ¬ (m < (cntR word size 0 : Int)) by omega)]; cases decide ((0 : Int) ≤ m) <;> rfl
  have a1 : sAsg (eCall F_greatest_steps [] (aCons (eV 0) aNil)) (setD 3) [.d (wordT word), .d (.int (size : Int)), .d (.int m), .un, .un, .un, .un, .un, .un, .un] = some (.nx [.d (wordT word), .d (.int (size : Int)), .d (.int m), .d (stepsT word), .un, .un, .un, .un, .un, .un]) := by
    unfold sAsg
    rw [call_u (asv := [AV.d (wordT word)]) (x := stepsT word) (acons_go rfl rfl) rfl rfl (great_n (by omega))]
    rfl
  have a2 : sAsg (eCall F_count_ends [] (aCons (eV 3) (aCons (eV 1) aNil))) (setD 4) [.d (wordT word), .d (.int (size : Int)), .d (.int m), .d (stepsT word), .un, .un, .un, .un, .un, .un] = some (.nx [.d (wordT word), .d (.int (size : Int)), .d (.int m), .d (stepsT word), .d C, .un, .un, .un, .un, .un]) := by
    unfold sAsg
    rw [call_u (asv := [AV.d (stepsT word), AV.d (.int (size : Int))]) (x := C) (acons_go rfl (acons_go rfl rfl)) rfl rfl c1]
    rfl
  have a3 : t_wound_at [.d (wordT word), .d (.int (size : Int)), .d (.int m), .d (stepsT word), .d C, .un, .un, .un, .un, .un] = some (true, [.d (wordT word), .d (.int (size : Int)), .d (.int m), .d (stepsT word), .d C, .un, .un, .un, .un, .un]) := by
    have w1 : mNot (mTru (eCall F_is_whole [] (aCons (eV 2) aNil))) [.d (wordT word), .d (.int (size : Int)), .d (.int m), .d (stepsT word), .d C, .un, .un, .un, .un, .un] = some (false, [.d (wordT word), .d (.int (size : Int)), .d (.int m), .d (stepsT word), .d C, .un, .un, .un, .un, .un]) := by
      unfold mNot mTru
      rw [call_u (asv := [AV.d (.int m)]) (x := .bool true) (acons_go rfl rfl) rfl rfl (whole_i m)]
      rfl
    have w2 : eChain fLe fLt (eC (.int 0)) (eV 2) (eOp fSubs (eOp fSubs (eV 4) (eUn fNeg (eC (.int 1)))) (eC (.int 0))) [.d (wordT word), .d (.int (size : Int)), .d (.int m), .d (stepsT word), .d C, .un, .un, .un, .un, .un] = some (.d (.bool false), [.d (wordT word), .d (.int (size : Int)), .d (.int m), .d (stepsT word), .d C, .un, .un, .un, .un, .un]) :=
      chain_u rfl rfl (eop_go (eop_go rfl (un_u rfl rfl rfl) rfl rfl c2) rfl rfl rfl c3) rfl rfl rfl ch
    unfold t_wound_at mOr
    rw [w1, Option.bind_some, if_neg (by simp)]
    unfold mNot tOfE
    rw [w2]
    rfl
  have e : x_wound_at [.d (wordT word), .d (.int (size : Int)), .d (.int m), .un, .un, .un, .un, .un, .un, .un] = some (noNum (.int m), [.d (wordT word), .d (.int (size : Int)), .d (.int m), .d (stepsT word), .d C, .un, .un, .un, .un, .un]) := by
    unfold x_wound_at
    rw [a1, Option.bind_some]
    dsimp only
    rw [a2, Option.bind_some]
    dsimp only
    rw [a3, Option.bind_some, if_pos rfl]
    rfl
  show (x_wound_at [.d (wordT word), .d (.int (size : Int)), .d (.int m), .un, .un, .un, .un, .un, .un, .un]).map (·.1) = _
  rw [e]; rfl
theorem none_u {m : Int} {y : Da} (hl : word.length ≤ 900) (hs : size ≤ 900) (h : m < 0 ∨ (cntR word size 0 : Int) ≤ m) (hr : fRepr [.int m] = some y) : uC F_law_is_none [.d (wordT word), .d (.int (size : Int)), .d (.int m)] = some (.bool true) := by
  have e : F_law_is_none [.d (wordT word), .d (.int (size : Int)), .d (.int m)] = some (.one (.d (.bool true)), [.d (wordT word), .d (.int (size : Int)), .d (.int m)]) := by
    unfold F_law_is_none
    exact if_pos ⟨none_x hl hs h, by rw [hr]; rfl⟩
  exact uC_of (v := .one (.d _)) e
end
end K04
namespace Wo
open PySem PySem.Spec PyProof.Rows L2 Gk Vm Mth
def sixS : Str := "abcxyz"
def Sx (z : Str) : Prop := ∀ d ∈ z.cps.toList, d ∈ sixS.cps.toList
def qqS : Str := Str.ofString "qq"
def Nm2 (z : Str) : Prop := Nm z ∧ z ≠ qqS
theorem join_six {ys : List Str} (h : ∀ y ∈ ys, ∃ c, y = ⟨#[c]⟩ ∧ c ∈ sixS.cps.toList) :
    (Txt.join "" ys).length = ys.length ∧ ∀ c ∈ (Txt.join "" ys).cps.toList, c ∈ sixS.cps.toList := by
  rw [TL.join_eq]
  induction ys with
  | nil => exact ⟨rfl, fun c hc => absurd hc List.not_mem_nil⟩
  | cons y r ih =>
    obtain ⟨c, rfl, hc⟩ := h y (List.mem_cons_self ..)
    have ih := ih fun z hz => h z (List.mem_cons_of_mem _ hz)
    cases r with
    | nil => exact ⟨rfl, fun e he => by
        have : e = c := by simpa [Str.join] using he
        rw [this]; exact hc⟩
    | cons z r =>
      have e : Str.join "" (⟨#[c]⟩ :: z :: r) = (⟨#[c]⟩ ++ "" ++ Str.join "" (z :: r) : Str) := rfl
      rw [e]
      refine ⟨?_, fun e he => ?_⟩
      · rw [strLen_append, strLen_append, ih.1]
        show 1 + 0 + (r.length + 1) = r.length + 1 + 1
        omega
      · have q : ((⟨#[c]⟩ : Str) ++ "" ++ Str.join "" (z :: r)).cps.toList = c :: (Str.join "" (z :: r)).cps.toList := by
          show ((#[c] ++ #[]) ++ (Str.join "" (z :: r)).cps).toList = _
          simp
        rw [q] at he
        rcases List.mem_cons.mp he with z' | z'
        · rw [z']; exact hc
        · exact ih.2 e z'
theorem names1b {g r k : Int} (h : PotOk g r) : Wp (sAsg (eJoin (eC (.str (Str.ofString ""))) (eF (fLc (cmI (iRg1 (aCons (eCall F_law_take [] (aCons (eV 0) (aCons (eC (.int 6)) aNil))) aNil)) [7] (setD 7) tYesM (mLc (eCall F_law_of [] (aCons (eV 0) (aCons (eF (fListM (aCons (eC (.str (Str.ofString "abcxyz"))) aNil))) aNil)))))))) (setD 2) (pot true g r :: .d (.int k) :: un7))
    fun o => ∃ (z : Str) (g r : Int), o = .nx (pot true g r :: .d (.int k) :: .d (.str z) :: un6) ∧ PotOk g r ∧ (Ls 5 z ∧ Sx z) := by
  rw [wp_asg, wp_join, wp_eF]
  refine (stem_ok h).mono ?_
  rintro _ ⟨xs, g1, r1, rfl, p1, hl, hx⟩
  obtain ⟨ys, rfl, hy⟩ := signs_str (zs := (Str.ofString "abcxyz").cps.toList) hx
  have hy' : ∀ y ∈ ys, ∃ c, y = ⟨#[c]⟩ ∧ c ∈ lettersS.cps.toList := fun y m => let ⟨c, e, mc⟩ := hy y m; ⟨c, e, six_in c mc⟩
  obtain ⟨j1, j2⟩ := join_one hy'
  rw [List.length_map] at hl
  have hs := sum_ones hy'
  have e0 : ("" : Str).length = 0 := rfl
  have hc : (ys.map (·.length)).sum + ys.length * (Str.ofString "").length ≤ SLIM ∧ (Txt.join (Str.ofString "") ys).length ≤ SLIM := by
    rw [hs, show (Str.ofString "").length = 0 from rfl, show Txt.join (Str.ofString "") ys = Txt.join "" ys from rfl, j1]
    have : SLIM = 16000000 := rfl
    omega
  rw [show res (Prod.snd (Lc.d (Nw.da (Nw.r (Da.list (ys.map Da.str)))), pot true g1 r1 :: AV.d (Da.int k) :: un7)) (Lc.d (Nw.da (Nw.r (Da.list (ys.map Da.str))))) = some (Da.list (ys.map Da.str)) from rfl, wp_some]
  unfold fJoin
  simp only [itemsD, Option.bind_some, strsD_map]
  rw [if_pos hc, wp_some]
  (simp [↓wp_tag, ↓bind_tag, wpD_some, wpD_none, wpD_bind, bindD_some, bindD_none, mDef, startA, AV.fixd, sSeq, sIf, tOfE, eOp, eUn, eCB, aNil, aCons, eV, eC, eF, eTup, ownA, resA, res, AV.see, fSubs, Da.isDict, fIx, atI, ixN, fIB, fGt, fLt, fGe, fLe, fI, fAdd, fSub, fMul, fNeg, sAsg, sSetI, sAsgR, setR, Nw.av, Nw.da, rootAt, AV.asR, own, AV.get, fMod, fDiv, setD, setDa, sRet, sRetF, resRL, resL1, backP, AV.isRoot, AV.isFix, AV.flag, eCall, callM, argsOf, argOf, rootIx, putBack, isS, R1.da, Rv.da, fLen, fLenB, fLst, eScLen, eScIx, fLtA, fAbs, fInt, eBig, fPow, sNext, List.filterMap_cons, List.findIdx?_cons] <;> try simp only [wpD_back, bindD_back])
  exact ⟨_, _, _, ⟨⟨rfl, rfl⟩, rfl⟩, p1, ⟨by rw [show Txt.join (Str.ofString "") ys = Txt.join "" ys from rfl, j1]; exact hl, j2⟩, (join_six hy).2⟩
theorem q_six : ¬ (113 ∈ sixS.cps.toList) := by decide +kernel
theorem qq_cps : qqS.cps.toList = [113, 113] := by decide +kernel
theorem nm_mid2 {z : Str} {a : Int} {c : Nat} (hz : Ls 5 z) (hx : Sx z) (ha : 0 ≤ a) (hc : c ∈ lettersS.cps.toList) : Nm2 (cutS z none (some a) ++ ⟨#[c]⟩ ++ cutS z (some a) none) := by
  refine ⟨nm_mid hz ha hc, fun e => ?_⟩
  have q : (cutS z none (some a) ++ (⟨#[c]⟩ : Str) ++ cutS z (some a) none).cps.toList = (cutS z none (some a)).cps.toList ++ c :: (cutS z (some a) none).cps.toList := by
    show ((cutS z none (some a)).cps ++ #[c] ++ (cutS z (some a) none).cps).toList = _
    simp
  have h1 : ∀ d ∈ (cutS z none (some a)).cps.toList, d ∈ sixS.cps.toList := fun d m => hx d (List.mem_of_mem_drop (List.mem_of_mem_take m))
  have h2 : ∀ d ∈ (cutS z (some a) none).cps.toList, d ∈ sixS.cps.toList := fun d m => hx d (List.mem_of_mem_drop (List.mem_of_mem_take m))
  rw [e, qq_cps] at q
  generalize (cutS z none (some a)).cps.toList = pre at *
  generalize (cutS z (some a) none).cps.toList = post at *
  cases pre with
  | nil =>
    rw [List.nil_append] at q
    injection q with q1 q2
    exact q_six (h2 113 (by rw [← q2]; exact List.mem_singleton.mpr rfl))
  | cons x pre =>
    rw [List.cons_append] at q
    injection q with q1 q2
    exact q_six (h1 113 (by rw [q1]; exact List.mem_cons_self ..))
theorem names4b {g r a b c : Int} {k : Nat} {z : Str} {ys : List Nat} (hz : Ls 5 z) (hx : Sx z) (ha : 0 ≤ a) (hk : ys.length ≤ 26) (hy : ∀ c ∈ ys, c ∈ lettersS.cps.toList) :
    Wp (sRet (eF (fSortM (aCons (eF (fLc (cmI (iAny (eV 6)) [8] (setD 8) tYesM (mLc (eOp fAdd (eOp fAdd (eSl (eV 2) oNone (oSome (eV 3))) (eV 8)) (eSl (eV 2) (oSome (eV 3)) oNone)))))) aNil))) [pot true g r, .d (.int (k : Int)), .d (.str z), .d (.int a), .d (.int b), .d (.int c), .d (.list (ys.map fun c => .str ⟨#[c]⟩)), .un, .un])
      fun o => ∃ (zs : List Str) (α : AS), o = .rt (.one (.d (.list (zs.map Da.str)))) (pot true g r :: α) ∧ zs.length = ys.length ∧ (∀ z ∈ zs, Nm2 z) ∧ (ys.Nodup → zs.Nodup) := by
  rw [wp_ret, wp_eF, wp_sort, wp_aCons, wp_eF]
  refine lc_go (St := fun _ : Unit => [pot true g r, .d (.int (k : Int)), .d (.str z), .d (.int a), .d (.int b), .d (.int c), .d (.list (ys.map fun c => .str ⟨#[c]⟩)), .un, .un]) (OK := fun _ => True) (P := fun x y => ∃ w, x = .str w ∧ y = .str (cutS z none (some a) ++ w ++ cutS z (some a) none) ∧ Nm2 (cutS z none (some a) ++ w ++ cutS z (some a) none)) (s := ()) (list_go (i := 6) rfl) trivial (noRoots_of rfl) rfl (by rw [List.length_map]; have : LIM = 1000000 := rfl; omega) ?_ ?_
  · intro y m _ _
    obtain ⟨d, md, rfl⟩ := List.mem_map.mp m
    have nm := nm_mid2 hz hx ha (hy d md)
    have l1 := (hz.cut none (some a)).1
    have l2 := (hz.cut (some a) none).1
    have s1 : (cutS z none (some a)).length ≤ SLIM := Nat.le_trans l1 (by decide)
    have s2 : (cutS z (some a) none).length ≤ SLIM := Nat.le_trans l2 (by decide)
    have o1 : (⟨#[d]⟩ : Str).length = 1 := rfl
    have s3 : (cutS z none (some a) ++ (⟨#[d]⟩ : Str)).length ≤ SLIM ∧ (cutS z none (some a)).length + (⟨#[d]⟩ : Str).length ≤ SLIM := by
      rw [strLen_append, o1]
      have : SLIM = 16000000 := rfl
      omega
    have s4 : (cutS z none (some a) ++ (⟨#[d]⟩ : Str) ++ cutS z (some a) none).length ≤ SLIM ∧ (cutS z none (some a) ++ (⟨#[d]⟩ : Str)).length + (cutS z (some a) none).length ≤ SLIM := by
      rw [strLen_append, strLen_append, o1]
      have : SLIM = 16000000 := rfl
      omega
    generalize hw : (⟨#[d]⟩ : Str) = w at *
    (simp [↓wp_tag, ↓bind_tag, wpD_some, wpD_none, wpD_bind, bindD_some, bindD_none, mDef, startA, AV.fixd, sSeq, sIf, tOfE, eOp, eUn, eCB, aNil, aCons, eV, eC, eF, eTup, ownA, resA, res, AV.see, fSubs, Da.isDict, fIx, atI, ixN, fIB, fGt, fLt, fGe, fLe, fI, fAdd, fSub, fMul, fNeg, sAsg, sSetI, sAsgR, setR, Nw.av, Nw.da, rootAt, AV.asR, own, AV.get, fMod, fDiv, setD, setDa, sRet, sRetF, resRL, resL1, backP, AV.isRoot, AV.isFix, AV.flag, eCall, callM, argsOf, argOf, rootIx, putBack, isS, R1.da, Rv.da, fLen, fLenB, fLst, eScLen, eScIx, fLtA, fAbs, fInt, eBig, fPow, sNext, List.filterMap_cons, List.findIdx?_cons, eSl, oNone, oSome, fSl, s1, s2, s3, s4, wipeA] <;> try simp only [wpD_back, bindD_back])
    exact nm
  · rintro ws _ _ pr
    have h2 := paired_len pr
    rw [List.length_map] at h2
    obtain ⟨rfl, h3⟩ : ws = (ys.map fun d => cutS z none (some a) ++ (⟨#[d]⟩ : Str) ++ cutS z (some a) none).map Da.str ∧ ∀ x ∈ ys.map (fun d => cutS z none (some a) ++ (⟨#[d]⟩ : Str) ++ cutS z (some a) none), Nm2 x := by
      clear h2 hy hk
      induction ys generalizing ws with
      | nil => cases pr; exact ⟨rfl, fun c m => (List.not_mem_nil m).elim⟩
      | cons y ys ih =>
        rw [List.map_cons] at pr
        cases pr with
        | cons h t =>
          obtain ⟨w, e1, e2, e3⟩ := h
          injection e1 with e1
          subst e1
          obtain ⟨h4, h5⟩ := ih _ t
          refine ⟨by rw [List.map_cons, List.map_cons, e2, h4], fun d m => ?_⟩
          rw [List.map_cons] at m
          rcases List.mem_cons.mp m with rfl | m
          · exact e3
          · exact h5 d m
    rw [List.length_map] at h2
    rw [wp_aNil]
    refine ⟨_, rfl, ?_⟩
    refine (sort_strs _).mono ?_
    rintro _ ⟨us, rfl, pm⟩
    refine ⟨us, _, rfl, ?_, fun u m => h3 u (pm.mem_iff.mp m), fun nd => pm.nodup_iff.mpr ?_⟩
    · rw [pm.length_eq]
      exact h2.symm
    · refine List.Pairwise.map _ (fun d e hde heq => hde ?_) nd
      have q : ∀ d : Nat, (cutS z none (some a) ++ (⟨#[d]⟩ : Str) ++ cutS z (some a) none).cps.toList = (cutS z none (some a)).cps.toList ++ d :: (cutS z (some a) none).cps.toList := fun d => by
        show ((cutS z none (some a)).cps ++ #[d] ++ (cutS z (some a) none).cps).toList = _
        simp
      have h4 := congrArg (fun x : Str => x.cps.toList) heq
      have h4' : (cutS z none (some a) ++ (⟨#[d]⟩ : Str) ++ cutS z (some a) none).cps.toList = (cutS z none (some a) ++ (⟨#[e]⟩ : Str) ++ cutS z (some a) none).cps.toList := h4
      rw [q, q] at h4'
      have h5 := List.append_cancel_left h4'
      injection h5
theorem names_okb {fx : Bool} {g r : Int} {k : Nat} (h : PotOk g r) (hk : k ≤ 26) : Wp (F_law_names [pot fx g r, .d (.int (k : Int))]) fun y => ∃ (zs : List Str) (g r : Int), y = (.one (.d (.list (zs.map Da.str))), [pot fx g r, .d (.int (k : Int))]) ∧ PotOk g r ∧ zs.length = k ∧ (∀ z ∈ zs, Nm2 z) ∧ zs.Nodup := by
  have key : Wp (m_law_names (pot true g r :: .d (.int (k : Int)) :: un7)) fun o => ∃ (zs : List Str) (g r : Int) (α : AS), o = .rt (.one (.d (.list (zs.map Da.str)))) (pot true g r :: α) ∧ PotOk g r ∧ zs.length = k ∧ (∀ z ∈ zs, Nm2 z) ∧ zs.Nodup := by
    unfold m_law_names
    rw [wp_seq]
    refine (names1b h).mono ?_
    rintro _ ⟨z, g1, r1, rfl, p1, hz, hx6⟩
    dsimp only
    rw [wp_seq]
    refine (names2 p1 hz).mono ?_
    rintro _ ⟨a, b, c, g2, r2, rfl, p2, a0, b0, b1, c0, c1, codd⟩
    dsimp only
    rw [wp_seq]
    refine (names3 hk c0 c1 codd).mono ?_
    rintro _ ⟨ys, rfl, hl, hy, hyn⟩
    dsimp only
    refine (names4b (k := k) hz hx6 a0 (by omega) hy).mono ?_
    rintro _ ⟨zs, α, rfl, h1, h2, h2n⟩
    exact ⟨zs, g2, r2, α, rfl, p2, h1.trans hl, h2, h2n hyn⟩
  obtain ⟨o, e, zs, g1, r1, α, rfl, p, h1, h2⟩ := key
  refine ⟨_, ?_, zs, g1, r1, rfl, p, h1, h2⟩
  (simp [↓wp_tag, ↓bind_tag, wpD_some, wpD_none, wpD_bind, bindD_some, bindD_none, mDef, startA, AV.fixd, sSeq, sIf, tOfE, eOp, eUn, eCB, aNil, aCons, eV, eC, eF, eTup, ownA, resA, res, AV.see, fSubs, Da.isDict, fIx, atI, ixN, fIB, fGt, fLt, fGe, fLe, fI, fAdd, fSub, fMul, fNeg, sAsg, sSetI, sAsgR, setR, Nw.av, Nw.da, rootAt, AV.asR, own, AV.get, fMod, fDiv, setD, setDa, sRet, sRetF, resRL, resL1, backP, AV.isRoot, AV.isFix, AV.flag, eCall, callM, argsOf, argOf, rootIx, putBack, isS, R1.da, Rv.da, fLen, fLenB, fLst, eScLen, eScIx, fLtA, fAbs, fInt, eBig, fPow, sNext, List.filterMap_cons, List.findIdx?_cons, F_law_names, e] <;> try simp only [wpD_back, bindD_back])
theorem names_ub {fx : Bool} {p : Da} {k : Nat} (h : PotU p) (hk : k ≤ 26) : ∃ (zs : List Str) (p' : Da), uR1 F_law_names [pA fx p, .d (.int (k : Int))] 0 = some (.list (zs.map Da.str), p') ∧ PotU p' ∧ zs.length = k ∧ (∀ z ∈ zs, Nm z ∧ z ≠ qqS) ∧ zs.Nodup := by
  obtain ⟨g, r, rfl, ho⟩ := h
  obtain ⟨y, e, zs, g', r', rfl, h1, h2, h3, h4⟩ := names_okb (fx := fx) ho hk
  exact ⟨zs, _, draw e rfl, ⟨g', r', rfl, h1⟩, h2, h3, h4⟩
end Wo
namespace Wo
open PySem PySem.Spec PyProof.Rows L2 Gk Vm Mth
abbrev PA := PostS × Nat
end Wo
namespace Wo
open PySem PySem.Spec PyProof.Rows L2 Gk Vm Mth
def sLe (a b : Str) : Prop := leD PyData.str a b = true
def sLt (a b : Str) : Prop := itemLt (.inr a.cps.toList) (.inr b.cps.toList) = true
theorem sort_strs_pw (zs : List Str) : Wp (sortD (zs.map Da.str)) fun ys => ∃ ws : List Str, ys = ws.map Da.str ∧ ws.Perm zs ∧ ws.Pairwise sLe := by
  have hc : PySem.W.AllAlike (zs.map PyData.str) ∧ PySem.W.Sortable (zs.map PyData.str) ∧ ∀ d ∈ zs.map PyData.str, d.depth ≤ 64 := by
    refine ⟨PySem.W.AllAlike.of fun b b' => rfl, PySem.W.Sortable.others fun b => ⟨fun z => PyData.noConfusion z, fun xs z => PyData.noConfusion z⟩, fun d hd => ?_⟩
    obtain ⟨z, _, rfl⟩ := List.mem_map.mp hd
    exact Nat.zero_le _
  have e : (zs.map Da.str).zip (zs.map PyData.str) = zs.map fun z => (Da.str z, PyData.str z) := by
    clear hc
    induction zs with
    | nil => rfl
    | cons z zs ih => rw [List.map_cons, List.map_cons, List.zip_cons_cons, ih, List.map_cons]
  refine ⟨_, ?_, sortBy PyData.str zs, rfl, sortBy_perm .., sortBy_pw ..⟩
  unfold sortD
  rw [toPys_strs, Option.bind_some, if_pos hc, e, merge_map, List.map_map]
  rfl
theorem sLt_of {a b : Str} (h : sLe a b) (n : a ≠ b) : sLt a b := by
  unfold sLe leD PySem.W.dataLe PySem.W.sortLe at h
  simp only [cond_false, Bool.not_eq_true'] at h
  have h' : PyProof.Rows.lexLt itemOrd [.inr b.cps.toList] [.inr a.cps.toList] = false := h
  have h1 := (lex_false.mp h').1
  unfold sLt
  cases h2 : itemLt (.inr a.cps.toList) (.inr b.cps.toList) with
  | true => rfl
  | false =>
    have := itemOrd.total _ _ h2 h1
    injection this with this
    exact (n (by
      cases a
      cases b
      congr 1
      exact Array.toList_inj.mp this)).elim
theorem sLt_pw : ∀ {zs : List Str}, zs.Pairwise sLe → zs.Nodup → zs.Pairwise sLt
  | [], _, _ => .nil
  | z :: zs, h, n => by
    rw [List.pairwise_cons] at h
    rw [List.nodup_cons] at n
    exact .cons (fun y m => sLt_of (h.1 y m) fun e => n.1 (e ▸ m)) (sLt_pw h.2 n.2)
end Wo
namespace Wo
open PySem PySem.Spec PyProof.Rows L2 Gk Vm Mth
section
variable {n : Nat} {posts : List PostS} {w : List Nat} {word : List Str} {names : List Str} {o : Option (List Nat)} {ends : List Nat}
/-- a thing that can be shown -/
def OkY (x : Da) : Prop := ∃ d, toPyY x = some d
theorem ShY.ok {x : Da} {k m : Nat} (h : ShY x k m) : OkY x := let ⟨d, e, _⟩ := h; ⟨d, e⟩
theorem OkY.nd {x : Da} (h : OkY x) : noDt x := fun kvs e => by
  obtain ⟨d, e2⟩ := h
  rw [e] at e2
  cases e2
theorem toPysY_sub : ∀ {xs : List Da} {ds : List PyData}, toPysY xs = some ds → ∀ y ∈ xs, OkY y
  | [], _, _ => fun _ m => (List.not_mem_nil m).elim
  | x :: xs, ds, e2 => by
    unfold toPysY at e2
    obtain ⟨d, e3, e4⟩ := Option.bind_eq_some_iff.mp e2
    obtain ⟨ds2, e5, _⟩ := Option.bind_eq_some_iff.mp e4
    intro y my
    rcases List.mem_cons.mp my with rfl | my
    · exact ⟨d, e3⟩
    · exact toPysY_sub e5 y my
theorem OkY.sub {xs : List Da} (h : OkY (.tuple xs)) : ∀ y ∈ xs, OkY y := by
  obtain ⟨d, e⟩ := h
  unfold toPyY at e
  split at e
  · obtain ⟨ds, e2, _⟩ := Option.map_eq_some_iff.mp e
    exact toPysY_sub e2
  · cases e
end
end Wo
namespace K34
open PySem PySem.Spec PyProof.Rows L2 Gk Vm Wo Mth
section
variable {word : List Str} {ends : List Nat}
abbrev arms (M : List PA) : List Nat := M.map (·.2)
end
end K34
namespace K29
open PySem PySem.Spec PyProof.Rows L2 Gk Vm Wo Mth K34
def mv (f : Nat → Nat) (x : Pl) : Pl := (x.1, f x.2)
end K29
namespace Wo
open PySem PySem.Spec PyProof.Rows L2 Gk Vm Mth
section
variable {word : List Str}
/-- whether a row is wound from a place -/
def rwB (word : List Str) : Nat → List Str → Bool
  | p, [] => decide (p = word.length)
  | p, R :: row => (goL word p).any fun a => decide (word[a]? = some R) && rwB word (a + 1) row
theorem rw_cons {p : Nat} {R : Str} {row : List Str} : rwB word p (R :: row) = true ↔ ∃ a ∈ goL word p, word[a]? = some R ∧ rwB word (a + 1) row = true := by
  rw [show rwB word p (R :: row) = (goL word p).any (fun a => decide (word[a]? = some R) && rwB word (a + 1) row) from rfl, List.any_eq_true]
  constructor
  · rintro ⟨a, ma, h⟩
    rw [Bool.and_eq_true, decide_eq_true_iff] at h
    exact ⟨a, ma, h⟩
  · rintro ⟨a, ma, h⟩
    exact ⟨a, ma, by rw [Bool.and_eq_true, decide_eq_true_iff]; exact h⟩
theorem goL_up {a g : Nat} (h : a ≤ g) (e : word[a]? = word[g]?) : ∀ b ∈ goL word (a + 1), b ∈ goL word (g + 1) := by
  intro b mb
  obtain ⟨h1, h2⟩ := goL_mem.mp mb
  refine goL_mem.mpr ⟨?_, h2⟩
  rcases h1 with h1 | h1
  · obtain ⟨x, y, z⟩ := windsL_mem.mp h1
    rw [Nat.add_sub_cancel] at z
    exact .inl (windsL_mem.mpr ⟨x, by omega, by rw [z, Nat.add_sub_cancel]; exact e⟩)
  · by_cases q : a = g
    · exact .inr (by omega)
    · refine .inl (windsL_mem.mpr ⟨by omega, by omega, ?_⟩)
      rw [h1, Nat.add_sub_cancel, Nat.add_sub_cancel]
      exact e
theorem rw_up {a g : Nat} (h : a ≤ g) (hg : g < word.length) (e : word[a]? = word[g]?) {row : List Str} (hr : rwB word (a + 1) row = true) : rwB word (g + 1) row = true := by
  cases row with
  | nil =>
    have : a + 1 = word.length := of_decide_eq_true hr
    exact decide_eq_true (by omega)
  | cons R row =>
    obtain ⟨b, mb, h1, h2⟩ := rw_cons.mp hr
    exact rw_cons.mpr ⟨b, goL_up h e b mb, h1, h2⟩
theorem step_ex {p : Nat} {s : Str} : ∀ (k b : Nat), word.length - b ≤ k → b ∈ goL word p → word[b]? = some s → ∃ t, (s, t) ∈ stepS word p
  | 0, b, hk, mb, e => by
    have := (goL_mem.mp mb).2
    omega
  | k + 1, b, hk, mb, e => by
    by_cases h : ∀ c ∈ goL word p, word[c]? = some s → c ≤ b
    · exact ⟨b + 1, stepS_mem.mpr ⟨b, mb, e, rfl, h⟩⟩
    · obtain ⟨c, h⟩ := Classical.not_forall.mp h
      obtain ⟨mc, h⟩ := Classical.not_imp.mp h
      obtain ⟨ec, h⟩ := Classical.not_imp.mp h
      have := (goL_mem.mp mc).2
      exact step_ex k c (by omega) mc ec
/-- the greatest place behind a row -/
def grt (word : List Str) : Nat → List Str → Option Nat
  | p, [] => some p
  | p, R :: row => (valA (stepS word p) R).bind fun t => grt word t row
theorem val_none {κ τ : Type} [DecidableEq κ] {L : List (κ × τ)} {k : κ} (h : valA L k = none) : ∀ v, (k, v) ∉ L := fun v m => by
  unfold valA at h
  rw [Option.map_eq_none_iff, List.find?_eq_none] at h
  exact h _ m (decide_eq_true rfl)
theorem rw_step {p t : Nat} {s : Str} {row : List Str} (h : (s, t) ∈ stepS word p) : rwB word p (s :: row) = rwB word t row := by
  obtain ⟨a, ma, ea, rfl, mx⟩ := stepS_mem.mp h
  rw [Bool.eq_iff_iff, rw_cons]
  constructor
  · rintro ⟨b, mb, eb, hb⟩
    exact rw_up (mx b mb eb) (goL_mem.mp ma).2 (by rw [ea, eb]) hb
  · intro h
    exact ⟨a, ma, ea, h⟩
theorem rw_miss {p : Nat} {s : Str} {row : List Str} (h : valA (stepS word p) s = none) : rwB word p (s :: row) = false := by
  cases e : rwB word p (s :: row) with
  | false => rfl
  | true =>
    obtain ⟨a, ma, ea, _⟩ := rw_cons.mp e
    obtain ⟨t, mt⟩ := step_ex _ a (Nat.le_refl _) ma ea
    exact (val_none h t mt).elim
theorem val_mem {κ τ : Type} [DecidableEq κ] {L : List (κ × τ)} {k : κ} {v : τ} (h : valA L k = some v) : (k, v) ∈ L := by
  unfold valA at h
  obtain ⟨x, ex, rfl⟩ := Option.map_eq_some_iff.mp h
  have := of_decide_eq_true (p := x.1 = k) (List.find?_some (p := fun kv : κ × τ => decide (kv.1 = k)) ex)
  rw [← this]
  exact List.mem_of_find?_eq_some ex
theorem grt_le : ∀ {row : List Str} {p t : Nat}, p ≤ word.length → grt word p row = some t → t ≤ word.length
  | [], p, t, hp, e => by cases e; exact hp
  | R :: row, p, t, hp, e => by
    unfold grt at e
    obtain ⟨u, e1, e2⟩ := Option.bind_eq_some_iff.mp e
    exact grt_le (stepS_le (val_mem e1)) e2
theorem rw_grt : ∀ {row : List Str} {p : Nat}, rwB word p row = true ↔ grt word p row = some word.length
  | [], p => by
    unfold rwB grt
    rw [decide_eq_true_iff]
    exact ⟨fun h => by rw [h], fun h => Option.some.inj h⟩
  | R :: row, p => by
    unfold grt
    cases e : valA (stepS word p) R with
    | none =>
      rw [rw_miss e]
      exact ⟨fun h => (by cases h), fun h => (by cases h)⟩
    | some t =>
      rw [rw_step (val_mem e), Option.bind_some]
      exact rw_grt
theorem sum_ge {τ : Type} {f : τ → Nat} : ∀ {L : List τ} {x : τ}, x ∈ L → f x ≤ (L.map f).sum
  | a :: L, x, m => by
    rw [List.map_cons, List.sum_cons]
    rcases List.mem_cons.mp m with rfl | m
    · omega
    · have := sum_ge (f := f) m
      omega
theorem cnt_grt : ∀ {row : List Str} {p t m : Nat}, grt word p row = some t → cntR word m t ≤ cntR word (m + row.length) p
  | [], p, t, m, e => by cases e; exact Nat.le_refl _
  | R :: row, p, t, m, e => by
    unfold grt at e
    obtain ⟨u, e1, e2⟩ := Option.bind_eq_some_iff.mp e
    have h := cnt_grt (m := m) e2
    rw [List.length_cons, ← Nat.add_assoc]
    exact Nat.le_trans h (sum_ge (f := fun x : SN => cntR word (m + row.length) x.2) (val_mem e1))
variable {posts : List PostS} {w : List Nat} {ends : List Nat}
end
end Wo
namespace K04
open PySem PySem.Spec PyProof.Rows L2 Gk Vm Wo Mth
section
variable {word : List Str} {row : List Str}
def rL : List Str → List Str → Prop
  | a :: as, b :: bs => sLt a b ∨ (a = b ∧ rL as bs)
  | _, _ => False
theorem rL_ext : ∀ {r s u v : List Str}, rL r s → rL (r ++ u) (s ++ v)
  | [], _, _, _, h => h.elim
  | _ :: _, [], _, _, h => h.elim
  | a :: r, b :: s, u, v, h => h.elim .inl fun h => .inr ⟨h.1, rL_ext h.2⟩
theorem rL_same {a b : Str} (h : sLt a b) : ∀ r : List Str, rL (r ++ [a]) (r ++ [b])
  | [] => .inl h
  | _ :: r => .inr ⟨rfl, rL_same h r⟩
theorem step_srt (p : Nat) : ((stepS word p).map (·.1)).Pairwise sLt := by
  have h1 : ((stepS word p).map (·.1)) = sortSt ((mkD (prsL word p)).map (·.1)) := by
    unfold stepS
    rw [List.map_map]
    exact List.map_id _
  have h2 := stepS_keys (word := word) p
  rw [h1] at h2 ⊢
  exact sLt_pw (sortSt_pw _) h2
theorem step_at {p : Nat} (h : p ≤ word.length) : fSubs (stepsT word) (.int (p : Int)) = some (.dk (strD (stepS word p))) := by
  unfold stepsT
  exact ixl (by rw [List.getElem?_map, List.getElem?_range (by omega)]; rfl)
theorem look_st {S : List SN} {R : Str} : lookD (.dk (strD S)) (.str R) = some ((valA S R).map fun t : Nat => Da.int (t : Int)) := by
  show ((keyD (.str R)).bind fun k => some (valA (strD S) k)) = _
  rw [show keyD (.str R) = some (.inr R) from rfl, Option.bind_some, val_strD]
theorem in_st {S : List SN} {R : Str} : (fIn true) (.str R) (.dk (strD S)) = some (.bool (!(valA S R).isSome)) := by
  unfold fIn
  show ((lookD (.dk (strD S)) (.str R)).bind fun r => some r.isSome).map _ = _
  rw [look_st, Option.bind_some]
  cases valA S R <;> rfl
theorem sub_st {S : List SN} {R : Str} {t : Nat} (h : valA S R = some t) : fSubs (.dk (strD S)) (.str R) = some (.int (t : Int)) := by
  show (lookD (.dk (strD S)) (.str R)).bind id = _
  rw [look_st, h]
  rfl
theorem wound_loop {f : Da → Da → Option (Lp Da Da)} (hf : ∀ (p : Nat) (R : Str), p ≤ word.length → f (.str R) (.int (p : Int)) = match valA (stepS word p) R with
    | none => some (.rt (.bool false))
    | some t => some (.nx (.int (t : Int)))) : ∀ (row : List Str) (p : Nat), p ≤ word.length → ∃ o, forE f (row.map Da.str) (.int (p : Int)) = some o ∧ lpK o (fun g => (fLenB [wordT word]).bind fun e => (fEqS g e).bind fun e2 => some e2) = some (.bool (rwB word p row))
  | [], p, hp => by
    refine ⟨_, rfl, ?_⟩
    rw [lpK_nx, len_word, Option.bind_some, eq_n, Option.bind_some]
    rfl
  | R :: row, p, hp => by
    rw [List.map_cons]
    unfold forE
    rw [hf p R hp]
    cases e : valA (stepS word p) R with
    | none => exact ⟨_, rfl, by rw [rw_miss e]; rfl⟩
    | some t =>
      rw [Option.bind_some]
      dsimp only
      rw [rw_step (val_mem e)]
      exact wound_loop hf row t (stepS_le (val_mem e))
theorem wound_n (hl : word.length ≤ 900) : uC F_is_wound [.d (wordT word), .d (wordT row), .d (.int 0)] = some (.bool (rwB word 0 row)) := by
  refine uC_of (v := .one (.d _)) (tx_is_wound ?_)
  unfold u_is_wound
  rw [show uC F_check_place [AV.d (wordT word), AV.d (Da.int 0)] = some .none from check_place_n (p := 0) (Nat.zero_le _), Option.bind_some, great_n (by omega), Option.bind_some, show iterU (wordT row) = some (row.map Da.str) from rfl, Option.bind_some]
  obtain ⟨o, e, k⟩ := wound_loop (word := word) (f := fun name (greatest : Da) =>
    (fSubs (stepsT word) greatest).bind fun e_2 =>
    ((fIn true) name e_2).bind fun e_3 =>
    (asB e_3).bind fun t =>
    cond t (some (.rt (Da.bool false))) ((fSubs (stepsT word) greatest).bind fun e_4 =>
    (fSubs e_4 name).bind fun greatest_1 =>
    some (.nx greatest_1))) (fun p R hp => by
      rw [step_at hp, Option.bind_some, in_st, Option.bind_some, asB_b, Option.bind_some]
      cases e : valA (stepS word p) R with
      | none => rfl
      | some t =>
        rw [show (!(some t : Option Nat).isSome) = false from rfl, cond_false, Option.bind_some, sub_st e, Option.bind_some]) row 0 (Nat.zero_le _)
  rw [show forE _ (row.map Da.str) (Da.int 0) = some o from e, Option.bind_some]
  exact k
abbrev RT := List Str × Nat
def rtT (x : RT) : Da := .tuple [wordT x.1, .int (x.2 : Int)]
theorem items_st {S : List SN} : itemsOf (.dk (strD S)) = some (S.map fun x : SN => Da.tuple [.str x.1, .int (x.2 : Int)]) := by
  unfold itemsOf strD
  dsimp only
  rw [List.map_map]
  rfl
/-- the rows that go on -/
def goOn (word : List Str) (k : Nat) (x : RT) : List RT := ((stepS word x.2).filter fun y : SN => decide (0 < cntR word k y.2)).map fun y => (x.1 ++ [y.1], y.2)
theorem sum_fm {τ υ : Type} {g : τ → List υ} {f : υ → Nat} : ∀ {L : List τ}, ((L.flatMap g).map f).sum = (L.map fun x => ((g x).map f).sum).sum
  | [] => rfl
  | a :: L => by rw [List.flatMap_cons, List.map_append, List.sum_append, sum_fm, List.map_cons, List.sum_cons]
theorem sum_flt {τ : Type} {f : τ → Nat} : ∀ {L : List τ}, ((L.filter fun x => decide (0 < f x)).map f).sum = (L.map f).sum
  | [] => rfl
  | a :: L => by
    rw [List.filter_cons]
    by_cases h : 0 < f a
    · rw [decide_eq_true h, if_pos rfl, List.map_cons, List.sum_cons, List.map_cons, List.sum_cons, sum_flt]
    · rw [decide_eq_false h, if_neg Bool.false_ne_true, List.map_cons, List.sum_cons, sum_flt]
      omega
theorem len_sum {τ : Type} {f : τ → Nat} : ∀ {L : List τ}, (∀ x ∈ L, 0 < f x) → L.length ≤ (L.map f).sum
  | [], _ => Nat.le_refl _
  | a :: L, h => by
    rw [List.map_cons, List.sum_cons, List.length_cons]
    have h1 := h a (List.mem_cons_self ..)
    have h2 := len_sum (f := f) fun x m => h x (List.mem_cons_of_mem _ m)
    omega
theorem grt_snoc : ∀ {row : List Str} {p : Nat} {s : Str}, grt word p (row ++ [s]) = (grt word p row).bind fun t => valA (stepS word t) s
  | [], p, s => by
    show (valA (stepS word p) s).bind (fun t => some t) = valA (stepS word p) s
    cases valA (stepS word p) s <;> rfl
  | R :: row, p, s => by
    rw [List.cons_append]
    unfold grt
    cases e : valA (stepS word p) R with
    | none => rfl
    | some t => rw [Option.bind_some, Option.bind_some, grt_snoc]
theorem pw_fm {τ υ : Type} {R : τ → τ → Prop} {S : υ → υ → Prop} {g : τ → List υ} : ∀ {L : List τ}, L.Pairwise R → (∀ x, (g x).Pairwise S) → (∀ x x', R x x' → ∀ y ∈ g x, ∀ y' ∈ g x', S y y') → (L.flatMap g).Pairwise S
  | [], _, _, _ => .nil
  | x :: L, h, h1, h2 => by
    obtain ⟨a, b⟩ := List.pairwise_cons.mp h
    rw [List.flatMap_cons, List.pairwise_append]
    exact ⟨h1 x, pw_fm b h1 h2, fun y my y' my' => by
      obtain ⟨x', mx', my'⟩ := List.mem_flatMap.mp my'
      exact h2 x x' (a x' mx') y my y' my'⟩
structure RowsJ (word : List Str) (size j : Nat) (B : List RT) : Prop where
  mem : ∀ x : RT, x ∈ B ↔ x.1.length = j ∧ grt word 0 x.1 = some x.2 ∧ 0 < cntR word (size - j) x.2
  sum : (B.map fun x => cntR word (size - j) x.2).sum = cntR word size 0
  srt : B.Pairwise fun x y => rL x.1 y.1
theorem rowsJ_next {size j : Nat} {B : List RT} (hj : j < size) (J : RowsJ word size j B) : RowsJ word size (j + 1) (B.flatMap (goOn word (size - (j + 1)))) := by
  have ek : size - j = size - (j + 1) + 1 := by omega
  refine ⟨fun x => ?_, ?_, ?_⟩
  · rw [List.mem_flatMap]
    constructor
    · rintro ⟨y, my, mx⟩
      obtain ⟨z, mz, rfl⟩ := List.mem_map.mp mx
      obtain ⟨mz, hz⟩ := List.mem_filter.mp mz
      obtain ⟨h1, h2, h3⟩ := (J.mem y).mp my
      refine ⟨by rw [List.length_append, h1]; rfl, ?_, of_decide_eq_true hz⟩
      show grt word 0 (y.1 ++ [z.1]) = some z.2
      rw [grt_snoc, h2, Option.bind_some]
      exact val_of_mem (stepS_keys y.2) mz
    · rintro ⟨h1, h2, h3⟩
      obtain ⟨x1, x2⟩ := x
      dsimp only at h1 h2 h3
      have hne : x1 ≠ [] := fun z => by rw [z] at h1; cases h1
      obtain ⟨r, s, rfl⟩ : ∃ r s, x1 = r ++ [s] := ⟨x1.dropLast, x1.getLast hne, (List.dropLast_concat_getLast hne).symm⟩
      rw [grt_snoc] at h2
      obtain ⟨t, e1, e2⟩ := Option.bind_eq_some_iff.mp h2
      have mt := Wo.val_mem e2
      refine ⟨(r, t), (J.mem (r, t)).mpr ⟨by rw [List.length_append] at h1; exact Nat.succ.inj h1, e1, ?_⟩, List.mem_map.mpr ⟨(s, x2), List.mem_filter.mpr ⟨mt, decide_eq_true h3⟩, rfl⟩⟩
      show 0 < cntR word (size - j) t
      rw [ek]
      exact Nat.lt_of_lt_of_le h3 (sum_ge (f := fun x : SN => cntR word (size - (j + 1)) x.2) mt)
  · rw [sum_fm, ← J.sum]
    congr 1
    refine List.map_congr_left fun x mx => ?_
    unfold goOn
    rw [List.map_map]
    show (((stepS word x.2).filter fun y : SN => decide (0 < cntR word (size - (j + 1)) y.2)).map fun y => cntR word (size - (j + 1)) y.2).sum = _
    rw [sum_flt (f := fun y : SN => cntR word (size - (j + 1)) y.2), ek]
    rfl
  · refine pw_fm J.srt (fun x => ?_) (fun x x' h y my y' my' => ?_)
    · unfold goOn
      rw [List.pairwise_map]
      refine List.Pairwise.filter _ ?_
      have := step_srt (word := word) x.2
      rw [List.pairwise_map] at this
      exact this.imp fun h => rL_same h x.1
    · obtain ⟨z, _, rfl⟩ := List.mem_map.mp my
      obtain ⟨z', _, rfl⟩ := List.mem_map.mp my'
      exact rL_ext h
theorem rowsJ_zero {size : Nat} (h : 0 < cntR word size 0) : RowsJ word size 0 [([], 0)] := by
  refine ⟨fun x => ?_, by rw [List.map_cons, List.sum_cons]; rfl, List.pairwise_singleton ..⟩
  rw [List.mem_singleton, Nat.sub_zero]
  constructor
  · rintro rfl
    exact ⟨rfl, rfl, h⟩
  · rintro ⟨h1, h2, h3⟩
    obtain ⟨x1, x2⟩ := x
    dsimp only at h1 h2
    have := List.eq_nil_of_length_eq_zero h1
    subst this
    cases h2
    rfl
theorem cut_l {xs : List Da} {x : Da} : fSl none (some (-1)) (.list (xs ++ [x])) = some (.list xs) := by
  show some (Da.list (cutD (xs ++ [x]) none (some (-1)))) = _
  congr 2
  unfold Vm.cutD
  have e : HT.sIx (xs ++ [x]).length (xs ++ [x]).length (some (-1)) = xs.length := by
    have hl : (xs ++ [x]).length = xs.length + 1 := by rw [List.length_append]; rfl
    rw [hl]
    unfold HT.sIx
    simp
    omega
  rw [e, HT.sIx_none]
  simp
theorem rows_n {size : Nat} (hl : word.length ≤ 900) (hs : size ≤ 900) (hc : cntR word size 0 ≤ 1000) : ∃ rows : List (List Str), uC F_wound_rows [.d (wordT word), .d (.int (size : Int))] = some (.tuple (rows.map wordT)) ∧ rows.Pairwise rL ∧ ∀ row, row ∈ rows ↔ row.length = size ∧ rwB word 0 row = true := by
  have lim : LIM = 1000000 := rfl
  have key : Wp (u_wound_rows (wordT word) (.int (size : Int))) fun r => ∃ rows : List (List Str), r = .tuple (rows.map wordT) ∧ rows.Pairwise rL ∧ ∀ row, row ∈ rows ↔ row.length = size ∧ rwB word 0 row = true := by
    unfold u_wound_rows
    rw [great_n (by omega), Option.bind_some, ends_n (by omega) (by omega), Option.bind_some, show fNeg (.int 1) = some (.int (-1)) from rfl, Option.bind_some, List.range_succ, List.map_append, show fSubs (.list (((List.range size).map fun k => cntT word k) ++ [size].map fun k => cntT word k)) (.int (-1)) = some (cntT word size) from last_l _ _, Option.bind_some, show fSubs (cntT word size) (.int 0) = some (.int (cntR word size 0 : Int)) from ixl (k := 0) (by rw [List.getElem?_map, List.getElem?_range (by omega)]; rfl), Option.bind_some, show fGt (.int (cntR word size 0 : Int)) (.int 1000) = some (.bool false) by rw [gt_i, decide_eq_false (by omega)], Option.bind_some, asB_b, Option.bind_some, cond_false, show fEqS (.int (cntR word size 0 : Int)) (.int 0) = some (.bool (decide (cntR word size 0 = 0))) by
      show some (Da.bool ((cntR word size 0 : Int) == 0)) = _
      congr 2
      rw [Bool.eq_iff_iff, beq_iff_eq, decide_eq_true_iff]
      omega, Option.bind_some, asB_b, Option.bind_some]
    by_cases h0 : cntR word size 0 = 0
    · rw [decide_eq_true h0, cond_true]
      refine ⟨_, rfl, [], rfl, .nil, fun row => ⟨fun m => (List.not_mem_nil m).elim, fun ⟨h1, h2⟩ => ?_⟩⟩
      have := cnt_grt (m := 0) (rw_grt.mp h2)
      rw [Nat.zero_add, h1, h0, show cntR word 0 word.length = 1 from if_pos rfl] at this
      omega
    · rw [decide_eq_false h0, cond_false, Option.bind_some, Option.bind_some, asI_i, Option.bind_some, show fSl none (some (-1)) (.list (((List.range size).map fun k => cntT word k) ++ [size].map fun k => cntT word k)) = some (.list ((List.range size).map fun k => cntT word k)) from cut_l, Option.bind_some, show revU (.list ((List.range size).map fun k => cntT word k)) = some ((List.range size).reverse.map fun k => cntT word k) by rw [List.map_reverse]; rfl, Option.bind_some]
      refine wpb_forU (List.range size).reverse (fun k => cntT word k) (fun done s => ∃ B : List RT, s = .list (B.map rtT) ∧ RowsJ word size done.length B) ⟨[([], 0)], rfl, rowsJ_zero (by omega)⟩ (fun done k rest s ed hj => ?_) fun s hj => ?_
      · obtain ⟨B, rfl, J⟩ := hj
        have le := congrArg List.length ed
        rw [List.length_append, List.length_cons, List.length_reverse, List.length_range] at le
        have ek : k = size - (done.length + 1) := by
          have h1 : (List.range size).reverse[done.length]? = some k := by rw [← ed, List.getElem?_append_right (Nat.le_refl _), Nat.sub_self]; rfl
          rw [List.getElem?_reverse (by rw [List.length_range]; omega), List.length_range, List.getElem?_range (by omega)] at h1
          have := Option.some.inj h1
          omega
        have J2 := rowsJ_next (by omega) J
        have lB2 : (B.flatMap (goOn word k)).length ≤ 1000 := by
          rw [ek]
          have := len_sum (f := fun x : RT => cntR word (size - (done.length + 1)) x.2) fun x mx => ((J2.mem x).mp mx).2.2
          rw [J2.sum] at this
          omega
        rw [it_l, Option.bind_some, flatU_m (e := rtT) (g := fun x => (goOn word k x).map rtT) (fun x mx => by
          have hx := (J.mem x).mp mx
          have xl := grt_le (Nat.zero_le _) hx.2.1
          rw [show un2 (rtT x) = some (wordT x.1, .int (x.2 : Int)) from rfl, Option.bind_some]
          dsimp only
          rw [step_at xl, Option.bind_some, items_st, Option.bind_some, flatU_f (p := fun y : SN => decide (0 < cntR word k y.2)) (g := fun y : SN => rtT (x.1 ++ [y.1], y.2)) (fun y my => by
            have yl := stepS_le my
            rw [show un2 (Da.tuple [.str y.1, .int (y.2 : Int)]) = some (.str y.1, .int (y.2 : Int)) from rfl, Option.bind_some]
            dsimp only
            rw [show fSubs (cntT word k) (.int (y.2 : Int)) = some (.int (cntR word k y.2 : Int)) from ixl (by rw [List.getElem?_map, List.getElem?_range (by omega)]; rfl), Option.bind_some, show truD (.int (cntR word k y.2 : Int)) = decide (0 < cntR word k y.2) by
              show ((cntR word k y.2 : Int) != 0) = _
              rw [Bool.eq_iff_iff, bne_iff_ne, decide_eq_true_iff]
              omega, show unT (wordT x.1) = some (x.1.map Da.str) from rfl, Option.bind_some, limU_ok (by rw [List.length_append, List.length_map]; show x.1.length + 1 ≤ _; omega), Option.bind_some, show Da.tuple [.tuple (x.1.map Da.str ++ [.str y.1]), .int (y.2 : Int)] = rtT (x.1 ++ [y.1], y.2) by unfold rtT wordT; rw [List.map_append]; rfl]
            cases decide (0 < cntR word k y.2) <;> rfl), Option.bind_some]
          unfold goOn
          rw [List.map_map]
          rfl), Option.bind_some, show (B.flatMap fun x => (goOn word k x).map rtT) = (B.flatMap (goOn word k)).map rtT by rw [List.map_flatMap], limU_ok (by rw [List.length_map]; omega), Option.bind_some, Option.bind_some]
        exact ⟨_, rfl, B.flatMap (goOn word k), rfl, by rw [List.length_append, List.length_singleton, ek]; exact J2⟩
      · obtain ⟨B, rfl, J⟩ := hj
        rw [List.length_reverse, List.length_range] at J
        have lB : B.length ≤ 1000 := by
          have := len_sum (f := fun x : RT => cntR word (size - size) x.2) fun x mx => ((J.mem x).mp mx).2.2
          rw [J.sum] at this
          omega
        rw [it_l, Option.bind_some, flatU_1 (e := rtT) (g := fun x : RT => wordT x.1) (fun x mx => by
          rw [show un2 (rtT x) = some (wordT x.1, .int (x.2 : Int)) from rfl, Option.bind_some]), Option.bind_some, limU_ok (by rw [List.length_map]; omega), Option.bind_some, tup_l, Option.bind_some]
        refine ⟨_, rfl, B.map (·.1), by rw [List.map_map]; rfl, by rw [List.pairwise_map]; exact J.srt, fun row => ?_⟩
        rw [List.mem_map]
        constructor
        · rintro ⟨x, mx, rfl⟩
          obtain ⟨h1, h2, h3⟩ := (J.mem x).mp mx
          rw [Nat.sub_self] at h3
          have : x.2 = word.length := by
            by_cases e : x.2 = word.length
            · exact e
            · rw [show cntR word 0 x.2 = 0 from if_neg e] at h3
              omega
          exact ⟨h1, rw_grt.mpr (by rw [h2, this])⟩
        · rintro ⟨h1, h2⟩
          exact ⟨(row, word.length), (J.mem _).mpr ⟨h1, rw_grt.mp h2, by rw [Nat.sub_self, show cntR word 0 word.length = 1 from if_pos rfl]; exact Nat.one_pos⟩, rfl⟩
  obtain ⟨r, e, rows, rfl, hm⟩ := key
  exact ⟨rows, uC_of (tx_wound_rows e), hm⟩
end
end K04
namespace Wo
open PySem PySem.Spec PyProof.Rows L2 Gk Vm Mth
section
variable {word : List Str}
theorem rowsG_mem : ∀ {k p : Nat} {row : List Str}, row ∈ rowsG word k p ↔ row.length = k ∧ rwB word p row = true
  | 0, p, row => by
    unfold rowsG
    constructor
    · intro m
      split at m
      · rename_i h
        rw [List.mem_singleton.mp m]
        refine ⟨rfl, ?_⟩
        subst h
        exact decide_eq_true rfl
      · cases m
    · rintro ⟨h1, h2⟩
      obtain rfl := List.length_eq_zero_iff.mp h1
      rw [if_pos (of_decide_eq_true (show decide (p = word.length) = true from h2))]
      exact List.mem_singleton.mpr rfl
  | k + 1, p, row => by
    unfold rowsG
    constructor
    · intro m
      obtain ⟨⟨s, t⟩, mx, m⟩ := List.mem_flatMap.mp m
      obtain ⟨r, mr, rfl⟩ := List.mem_map.mp m
      obtain ⟨h1, h2⟩ := rowsG_mem.mp mr
      exact ⟨by rw [List.length_cons, h1], by rw [rw_step mx]; exact h2⟩
    · rintro ⟨h1, h2⟩
      cases row with
      | nil => cases h1
      | cons s r =>
        cases hv : valA (stepS word p) s with
        | none => rw [rw_miss hv] at h2; cases h2
        | some t =>
          have mx : (s, t) ∈ stepS word p := val_mem hv
          rw [rw_step mx] at h2
          have hr : r.length = k := by rw [List.length_cons] at h1; omega
          exact List.mem_flatMap.mpr ⟨(s, t), mx, List.mem_map.mpr ⟨r, rowsG_mem.mpr ⟨hr, h2⟩, rfl⟩⟩
end
end Wo
namespace Wo
open PySem PySem.Spec PyProof.Rows L2 Gk Vm Mth
/-- rows of one size, in their order -/
def rLw : List Str → List Str → Prop
  | a :: as, b :: bs => sLt a b ∨ (a = b ∧ rLw as bs)
  | _, _ => False
section
variable {word : List Str}
theorem step_rise (p : Nat) : ((stepS word p).map (·.1)).Pairwise sLt := by
  have h1 : ((stepS word p).map (·.1)) = sortSt ((mkD (prsL word p)).map (·.1)) := by
    unfold stepS
    rw [List.map_map]
    exact List.map_id _
  have h2 := stepS_keys (word := word) p
  rw [h1] at h2 ⊢
  exact sLt_pw (sortSt_pw _) h2
theorem rowsG_rise : ∀ k p, (rowsG word k p).Pairwise rLw
  | 0, p => by
    unfold rowsG
    split
    · exact List.pairwise_singleton _ _
    · exact .nil
  | k + 1, p => by
    unfold rowsG
    rw [List.pairwise_flatMap]
    refine ⟨fun x _ => ?_, ?_⟩
    · rw [List.pairwise_map]
      exact (rowsG_rise k x.2).imp fun h => .inr ⟨rfl, h⟩
    · refine (List.pairwise_map.mp (step_rise (word := word) p)).imp fun {x y} h => ?_
      intro r mr s ms
      obtain ⟨r', _, rfl⟩ := List.mem_map.mp mr
      obtain ⟨s', _, rfl⟩ := List.mem_map.mp ms
      exact .inl h
theorem rise_asym {a b : Str} (h : sLt a b) (g : sLt b a) : False := by
  have h : itemOrd.blt (.inr a.cps.toList) (.inr b.cps.toList) = true := h
  have g : itemOrd.blt (.inr b.cps.toList) (.inr a.cps.toList) = true := g
  have := itemOrd.trans _ _ _ h g
  rw [itemOrd.irrefl] at this
  cases this
theorem rLw_asym : ∀ {r s : List Str}, rLw r s → rLw s r → False
  | [], _, h, _ => h.elim
  | _ :: _, [], h, _ => h.elim
  | a :: r, b :: s, h, g => by
    rcases h with h | ⟨rfl, h⟩
    · rcases g with g | ⟨rfl, _⟩
      · exact rise_asym h g
      · exact rise_asym h h
    · rcases g with g | ⟨_, g⟩
      · exact rise_asym g g
      · exact rLw_asym h g
/-- what rises and has the same members is the same -/
theorem rise_eq {S T : List (List Str)} (hS : S.Pairwise rLw) (hT : T.Pairwise rLw) (h : ∀ r, r ∈ S ↔ r ∈ T) : S = T := by
  have nd : ∀ {L : List (List Str)}, L.Pairwise rLw → L.Nodup := fun {L} p => p.imp fun h e => by subst e; exact rLw_asym h h
  exact ((List.perm_ext_iff_of_nodup (nd hS) (nd hT)).mpr h).eq_of_pairwise (fun _ _ _ _ x y => (rLw_asym x y).elim) hS hT
end
end Wo
namespace K04
open PySem PySem.Spec PyProof.Rows L2 Gk Vm Wo
section
variable {word : List Str} {size : Nat}
theorem rL_w : ∀ {r s : List Str}, rL r s → rLw r s
  | [], _, h => h.elim
  | _ :: _, [], h => h.elim
  | _ :: _, _ :: _, h => h.elim .inl fun h => .inr ⟨h.1, rL_w h.2⟩
theorem rows_g (hl : word.length ≤ 900) (hs : size ≤ 900) (hc : cntR word size 0 ≤ 1000) : uC F_wound_rows [.d (wordT word), .d (.int (size : Int))] = some (.tuple ((rowsG word size 0).map wordT)) := by
  obtain ⟨rows, e, p, m⟩ := rows_n (word := word) hl hs hc
  rw [rise_eq (p.imp rL_w) (rowsG_rise size 0) fun r => (m r).trans rowsG_mem.symm] at e
  exact e
end
end K04
namespace K04
open PySem PySem.Spec PyProof.Rows L2 Gk Vm Wo Mth
section
variable {word : List Str}
theorem nodup_le {S : List Nat} {n : Nat} (h : S.Nodup) (hb : ∀ q ∈ S, q ≤ n) : S.length ≤ n + 1 := by
  have := L2.nat_nodup_len S (List.range (n + 1)) h fun q m => List.mem_range.mpr (by have := hb q m; omega)
  rwa [List.length_range] at this
theorem behind_n {spots : List Nat} {R : Str} (hs : ∀ q ∈ spots, q ≤ word.length) (hw : word.length ≤ 100) : ∃ qs : List Nat, uC F_law_behind [.d (wordT word), .d (.list (intsD spots)), .d (.str R)] = some (.list (intsD qs)) ∧ ∀ q, q ∈ qs ↔ ∃ p ∈ spots, ∃ a ∈ goL word p, word[a]? = some R ∧ q = a + 1 := by
  have lim : LIM = 1000000 := rfl
  have key : Wp (u_law_behind (wordT word) (.list (intsD spots)) (.str R)) fun r => ∃ qs : List Nat, r = .list (intsD qs) ∧ ∀ q, q ∈ qs ↔ ∃ p ∈ spots, ∃ a ∈ goL word p, word[a]? = some R ∧ q = a + 1 := by
    unfold u_law_behind
    rw [it_l, Option.bind_some]
    refine wpb_forU spots (fun b : Nat => Da.int (b : Int)) (fun done s => ∃ S : List Nat, s = .dk (TD kN S) ∧ S.Nodup ∧ (∀ q ∈ S, q ≤ word.length) ∧ ∀ q, q ∈ S ↔ ∃ p ∈ done, ∃ a ∈ goL word p, word[a]? = some R ∧ q = a + 1) ⟨[], rfl, .nil, fun _ m => (List.not_mem_nil m).elim, fun q => ⟨fun m => (List.not_mem_nil m).elim, fun ⟨_, m, _⟩ => (List.not_mem_nil m).elim⟩⟩ (fun done p rest s ed hj => ?_) fun s hj => ?_
    · obtain ⟨S, rfl, nd, hb, hS⟩ := hj
      have hp : p ≤ word.length := hs p (by rw [← ed]; simp)
      have wl := windsL_len (word := word) (p := p)
      rw [show uC F_law_winds [AV.d (wordT word), AV.d (.int (p : Int))] = _ from winds_a hp (by omega), Option.bind_some, add_ll (by rw [List.length_map, List.length_singleton]; omega), Option.bind_some, it_l, Option.bind_some, show ((windsL word p).map fun b : Nat => Da.int (b : Int)) ++ [.int (p : Int)] = (windsL word p ++ [p]).map (fun b : Nat => Da.int (b : Int)) by rw [List.map_append]; rfl]
      refine wpb_forU (windsL word p ++ [p]) (fun b : Nat => Da.int (b : Int)) (fun done2 s => ∃ T : List Nat, s = .dk (TD kN T) ∧ T.Nodup ∧ (∀ q ∈ T, q ≤ word.length) ∧ ∀ q, q ∈ T ↔ q ∈ S ∨ ∃ a ∈ done2, a < word.length ∧ word[a]? = some R ∧ q = a + 1) ⟨S, rfl, nd, hb, fun q => ⟨.inl, fun h => h.elim id fun ⟨_, m, _⟩ => (List.not_mem_nil m).elim⟩⟩ (fun done2 a rest2 s ed2 hj => ?_) fun s hj => ?_
      · obtain ⟨T, rfl, ndT, hbT, hT⟩ := hj
        have lT := nodup_le ndT hbT
        rw [len_word, Option.bind_some, ltA_n, Option.bind_some, asB_b, Option.bind_some]
        have no : (¬ (a < word.length) ∨ word[a]? ≠ some R) → ∃ T' : List Nat, Da.dk (TD kN T) = .dk (TD kN T') ∧ T'.Nodup ∧ (∀ q ∈ T', q ≤ word.length) ∧ ∀ q, q ∈ T' ↔ q ∈ S ∨ ∃ b ∈ done2 ++ [a], b < word.length ∧ word[b]? = some R ∧ q = b + 1 := fun c => ⟨T, rfl, ndT, hbT, fun q => by
          rw [hT]
          refine or_congr_right ⟨fun ⟨b, m, h⟩ => ⟨b, List.mem_append_left _ m, h⟩, fun ⟨b, m, h1, h2, h3⟩ => ?_⟩
          rcases List.mem_append.mp m with m | m
          · exact ⟨b, m, h1, h2, h3⟩
          · rw [List.mem_singleton.mp m] at h1 h2
            exact (c.elim (fun c => c h1) fun c => c h2).elim⟩
        by_cases c : a < word.length
        · rw [decide_eq_true c, cond_true, word_at (List.getElem?_eq_getElem c), Option.bind_some, eq_s, Option.bind_some, asB_b, Option.bind_some, Option.bind_some]
          by_cases e : word[a] = R
          · rw [e, beq_self_eq_true, cond_true, add_1, Option.bind_some, set_N (by omega), Option.bind_some]
            refine ⟨_, rfl, addP T (a + 1), rfl, addP_nodup ndT, fun q m => (addP_mem.mp m).elim (hbT q) fun e => by omega, fun q => ?_⟩
            rw [addP_mem, hT]
            constructor
            · rintro ((h | ⟨b, m, h⟩) | rfl)
              · exact .inl h
              · exact .inr ⟨b, List.mem_append_left _ m, h⟩
              · exact .inr ⟨a, by simp, c, by rw [List.getElem?_eq_getElem c, e], rfl⟩
            · rintro (h | ⟨b, m, h1, h2, h3⟩)
              · exact .inl (.inl h)
              · rcases List.mem_append.mp m with m | m
                · exact .inl (.inr ⟨b, m, h1, h2, h3⟩)
                · rw [List.mem_singleton.mp m] at h3
                  exact .inr h3
          · rw [show (word[a] == R) = false from beq_eq_false_iff_ne.mpr e, cond_false]
            exact ⟨_, rfl, no (.inr fun z => e (by rw [List.getElem?_eq_getElem c] at z; exact Option.some.inj z))⟩
        · rw [decide_eq_false c, cond_false, Option.bind_some, cond_false]
          exact ⟨_, rfl, no (.inl c)⟩
      · obtain ⟨T, rfl, ndT, hbT, hT⟩ := hj
        refine ⟨_, rfl, T, rfl, ndT, hbT, fun q => ?_⟩
        rw [hT, hS]
        constructor
        · rintro (⟨p', m, h⟩ | ⟨a, m, h1, h2, h3⟩)
          · exact ⟨p', List.mem_append_left _ m, h⟩
          · exact ⟨p, by simp, a, goL_mem.mpr ⟨by rwa [List.mem_append, List.mem_singleton] at m, h1⟩, h2, h3⟩
        · rintro ⟨p', m, a, ma, h2, h3⟩
          rcases List.mem_append.mp m with m | m
          · exact .inl ⟨p', m, a, ma, h2, h3⟩
          · rw [List.mem_singleton.mp m] at ma
            obtain ⟨h0, h1⟩ := goL_mem.mp ma
            exact .inr ⟨a, by rwa [List.mem_append, List.mem_singleton], h1, h2, h3⟩
    · obtain ⟨S, rfl, nd, hb, hS⟩ := hj
      obtain ⟨cs, e, pm, _⟩ := sort_N S
      rw [e, Option.bind_some]
      exact ⟨_, rfl, cs, rfl, fun q => by rw [pm.mem_iff, hS]⟩
  obtain ⟨r, e, qs, rfl, h⟩ := key
  exact ⟨qs, uC_of (v := .one (.d _)) (tx_law_behind e), h⟩
open Classical in
noncomputable def nxt (word : List Str) (spots : List Nat) (R : Str) : List Nat :=
  if h : ∃ qs : List Nat, uC F_law_behind [.d (wordT word), .d (.list (intsD spots)), .d (.str R)] = some (.list (intsD qs)) ∧ ∀ q, q ∈ qs ↔ ∃ p ∈ spots, ∃ a ∈ goL word p, word[a]? = some R ∧ q = a + 1 then h.choose else []
theorem nxt_n {spots : List Nat} {R : Str} (hs : ∀ q ∈ spots, q ≤ word.length) (hw : word.length ≤ 100) : uC F_law_behind [.d (wordT word), .d (.list (intsD spots)), .d (.str R)] = some (.list (intsD (nxt word spots R))) ∧ ∀ q, q ∈ nxt word spots R ↔ ∃ p ∈ spots, ∃ a ∈ goL word p, word[a]? = some R ∧ q = a + 1 := by
  have h := behind_n (R := R) hs hw
  unfold nxt
  rw [dif_pos h]
  exact h.choose_spec
theorem nxt_le {spots : List Nat} {R : Str} (hs : ∀ q ∈ spots, q ≤ word.length) (hw : word.length ≤ 100) : ∀ q ∈ nxt word spots R, q ≤ word.length := fun q m => by
  obtain ⟨p, _, a, ma, _, rfl⟩ := ((nxt_n hs hw).2 q).mp m
  exact (goL_mem.mp ma).2
noncomputable def spF (word : List Str) (S : List Nat) (row : List Str) : List Nat := row.foldl (nxt word) S
noncomputable abbrev spL (word row : List Str) : List Nat := spF word [0] row
theorem spF_le (hw : word.length ≤ 100) : ∀ (row : List Str) (S : List Nat), (∀ q ∈ S, q ≤ word.length) → ∀ q ∈ spF word S row, q ≤ word.length
  | [], S, h => h
  | R :: row, S, h => spF_le hw row (nxt word S R) (nxt_le h hw)
theorem spF_iff (hw : word.length ≤ 100) : ∀ (row : List Str) (S : List Nat), (∀ q ∈ S, q ≤ word.length) → ((∃ p ∈ S, rwB word p row = true) ↔ word.length ∈ spF word S row)
  | [], S, h => by
    unfold rwB
    exact ⟨fun ⟨p, m, e⟩ => by rw [← of_decide_eq_true e]; exact m, fun m => ⟨_, m, decide_eq_true rfl⟩⟩
  | R :: row, S, h => by
    rw [show spF word S (R :: row) = spF word (nxt word S R) row from rfl, ← spF_iff hw row (nxt word S R) (nxt_le h hw)]
    constructor
    · rintro ⟨p, m, e⟩
      obtain ⟨a, ma, ea, e⟩ := rw_cons.mp e
      exact ⟨a + 1, ((nxt_n h hw).2 _).mpr ⟨p, m, a, ma, ea, rfl⟩, e⟩
    · rintro ⟨q, m, e⟩
      obtain ⟨p, mp, a, ma, ea, rfl⟩ := ((nxt_n h hw).2 _).mp m
      exact ⟨p, mp, rw_cons.mpr ⟨a, ma, ea, e⟩⟩
theorem zero_le : ∀ q ∈ [0], q ≤ word.length := fun q m => by rw [List.mem_singleton.mp m]; exact Nat.zero_le _
theorem spL_le (hw : word.length ≤ 100) (row : List Str) : ∀ q ∈ spL word row, q ≤ word.length := spF_le hw row [0] zero_le
theorem spL_iff (hw : word.length ≤ 100) (row : List Str) : word.length ∈ spL word row ↔ rwB word 0 row = true := by
  rw [← spF_iff hw row [0] zero_le]
  exact ⟨fun ⟨p, m, e⟩ => by rw [List.mem_singleton.mp m] at e; exact e, fun e => ⟨0, List.mem_singleton.mpr rfl, e⟩⟩
theorem spL_snoc (row : List Str) (R : Str) : spL word (row ++ [R]) = nxt word (spL word row) R := by
  unfold spL spF
  rw [List.foldl_append]
  rfl
/-- all rows of a size over these names, as they rise -/
def rowsA (names : List Str) : Nat → List (List Str)
  | 0 => [[]]
  | k + 1 => (rowsA names k).flatMap fun r => names.map fun R => r ++ [R]
variable {names : List Str}
theorem flat_const {τ υ : Type} {f : τ → List υ} {n : Nat} : ∀ {L : List τ}, (∀ x ∈ L, (f x).length = n) → (L.flatMap f).length = L.length * n
  | [], _ => by simp
  | x :: L, h => by
    rw [List.flatMap_cons, List.length_append, h x (List.mem_cons_self ..), flat_const (L := L) fun y m => h y (List.mem_cons_of_mem _ m), List.length_cons, Nat.succ_mul, Nat.add_comm]
theorem rowsA_len (hn : names.length ≤ 3) : ∀ k, (rowsA names k).length ≤ 3 ^ k
  | 0 => Nat.le_refl _
  | k + 1 => by
    unfold rowsA
    rw [flat_const (n := names.length) fun x _ => List.length_map _, Nat.pow_succ]
    exact Nat.mul_le_mul (rowsA_len hn k) hn
theorem rowsA_mem : ∀ {k : Nat} {row : List Str}, row ∈ rowsA names k ↔ row.length = k ∧ ∀ z ∈ row, z ∈ names
  | 0, row => by
    unfold rowsA
    rw [List.mem_singleton]
    exact ⟨fun e => by subst e; exact ⟨rfl, fun _ m => (List.not_mem_nil m).elim⟩, fun h => List.length_eq_zero_iff.mp h.1⟩
  | k + 1, row => by
    unfold rowsA
    rw [List.mem_flatMap]
    constructor
    · rintro ⟨r, mr, m⟩
      obtain ⟨R, mR, rfl⟩ := List.mem_map.mp m
      obtain ⟨h1, h2⟩ := rowsA_mem.mp mr
      refine ⟨by rw [List.length_append, h1]; rfl, fun z m => ?_⟩
      rcases List.mem_append.mp m with m | m
      · exact h2 z m
      · rw [List.mem_singleton.mp m]; exact mR
    · rintro ⟨h1, h2⟩
      have hne : row ≠ [] := fun e => by rw [e] at h1; cases h1
      have e := List.dropLast_concat_getLast hne
      refine ⟨row.dropLast, rowsA_mem.mpr ⟨by rw [List.length_dropLast, h1]; rfl, fun z m => h2 z (List.dropLast_subset _ m)⟩, List.mem_map.mpr ⟨row.getLast hne, h2 _ (List.getLast_mem hne), e⟩⟩
theorem rLw_app : ∀ {r s : List Str} (a b : List Str), rLw r s → rLw (r ++ a) (s ++ b)
  | [], _, _, _, h => h.elim
  | _ :: _, [], _, _, h => h.elim
  | _ :: _, _ :: _, a, b, h => h.elim .inl fun h => .inr ⟨h.1, rLw_app a b h.2⟩
theorem rLw_snoc : ∀ (r : List Str) {R S : Str}, sLt R S → rLw (r ++ [R]) (r ++ [S])
  | [], _, _, h => .inl h
  | _ :: r, _, _, h => .inr ⟨rfl, rLw_snoc r h⟩
theorem rowsA_rise (hn : names.Pairwise sLt) : ∀ k, (rowsA names k).Pairwise rLw
  | 0 => List.pairwise_singleton _ _
  | k + 1 => by
    unfold rowsA
    rw [List.pairwise_flatMap]
    refine ⟨fun r _ => ?_, (rowsA_rise hn k).imp fun {r s} h => ?_⟩
    · rw [List.pairwise_map]
      exact hn.imp fun h => rLw_snoc r h
    · intro x mx y my
      obtain ⟨R, _, rfl⟩ := List.mem_map.mp mx
      obtain ⟨S, _, rfl⟩ := List.mem_map.mp my
      exact rLw_app _ _ h
theorem rw_names : ∀ {row : List Str} {p : Nat}, rwB word p row = true → ∀ z ∈ row, z ∈ word
  | [], _, _, _, m => (List.not_mem_nil m).elim
  | R :: row, p, h, z, m => by
    obtain ⟨a, _, ea, h⟩ := rw_cons.mp h
    rcases List.mem_cons.mp m with rfl | m
    · exact List.mem_of_getElem? ea
    · exact rw_names h z m
/-- the law's due rows are the wound ones -/
theorem due_eq (hn : names.Pairwise sLt) (hw : ∀ z ∈ word, z ∈ names) (k : Nat) : (rowsA names k).filter (fun r => rwB word 0 r) = rowsG word k 0 := by
  refine rise_eq ((rowsA_rise hn k).filter _) (rowsG_rise k 0) fun r => ?_
  rw [List.mem_filter, rowsA_mem, rowsG_mem]
  exact ⟨fun h => ⟨h.1.1, h.2⟩, fun h => ⟨⟨h.1, fun z m => hw z (rw_names h.2 z m)⟩, h.2⟩⟩
noncomputable def prT (word row : List Str) : Da := .tuple [wordT row, .list (intsD (spL word row))]
noncomputable def lvT (word names : List Str) (k : Nat) : Da := .list ((rowsA names k).map (prT word))
theorem leveled_n (hw : word.length ≤ 100) (hn : names.length ≤ 3) : uC F_law_leveled [.d (wordT word), .d (.list (names.map Da.str)), .d (.int 6)] = some (.list ((List.range 7).map (lvT word names))) := by
  have lim : LIM = 1000000 := rfl
  have key : Wp (u_law_leveled (wordT word) (.list (names.map Da.str)) (.int 6)) fun r => r = .list ((List.range 7).map (lvT word names)) := by
    unfold u_law_leveled
    rw [show rg1U (.int 6) = some ((List.range 6).map fun k : Nat => Da.int (k : Int)) from rg1_n (n := 6) (by omega), Option.bind_some]
    refine wpb_forU (List.range 6) (fun k : Nat => Da.int (k : Int)) (fun done s => done.length ≤ 6 ∧ s = .list ((List.range (done.length + 1)).map (lvT word names))) ⟨by decide, rfl⟩ (fun done j rest s ed hj => ?_) fun s hj => ?_
    · obtain ⟨_, rfl⟩ := hj
      have hd : done.length < 6 := by
        have := congrArg List.length ed
        rw [List.length_append, List.length_cons, List.length_range] at this
        omega
      have pw : 3 ^ done.length ≤ 243 := Nat.pow_le_pow_right (n := 3) (by decide) (show done.length ≤ 5 by omega)
      have hA := rowsA_len hn done.length
      rw [show fNeg (.int 1) = some (.int (-1)) from rfl, Option.bind_some, List.range_succ, List.map_append, show fSubs (.list (((List.range done.length).map (lvT word names)) ++ [done.length].map (lvT word names))) (.int (-1)) = some (lvT word names done.length) from last_l _ _, Option.bind_some, show iterU (lvT word names done.length) = some ((rowsA names done.length).map (prT word)) from rfl, Option.bind_some]
      refine wpb_forU (rowsA names done.length) (prT word) (fun done2 s => s = .list ((done2.flatMap fun r => names.map fun R => r ++ [R]).map (prT word))) rfl (fun done2 r rest2 s ed2 hj => ?_) fun s hj => ?_
      · subst hj
        have l2 : done2.length ≤ 243 := by
          have := congrArg List.length ed2
          rw [List.length_append, List.length_cons] at this
          omega
        have lr : r.length ≤ 6 := by
          have m : r ∈ rowsA names done.length := by rw [← ed2]; simp
          have := (rowsA_mem.mp m).1
          omega
        have lf : (done2.flatMap fun r => names.map fun R => r ++ [R]).length ≤ 1000 := by
          rw [flat_const (n := names.length) fun x _ => List.length_map _]
          have := Nat.mul_le_mul l2 hn
          omega
        have sl := spL_le hw r
        unfold prT
        rw [un2_t, Option.bind_some]
        dsimp only
        rw [it_l, Option.bind_some, flatU_1 (g := fun R : Str => prT word (r ++ [R])) (fun R mR => by
          rw [show fAdd (wordT r) (Da.tuple [.str R]) = some (wordT (r ++ [R])) by
            show fAdd (.tuple (r.map Da.str)) (.tuple [.str R]) = _
            rw [add_t (by rw [List.length_map]; show r.length + 1 ≤ LIM; omega)]
            unfold wordT
            rw [List.map_append]
            rfl, Option.bind_some, show uC F_law_behind [AV.d (wordT word), AV.d (.list (intsD (spL word r))), AV.d (.str R)] = _ from (nxt_n sl hw).1, Option.bind_some, ← spL_snoc]
          rfl), Option.bind_some, limU_ok (by rw [List.length_map]; omega), Option.bind_some, show extU (.list ((done2.flatMap fun r => names.map fun R => r ++ [R]).map fun r => Da.tuple [wordT r, .list (intsD (spL word r))])) (.list (names.map fun R : Str => prT word (r ++ [R]))) = some (.list (((done2.flatMap fun r => names.map fun R => r ++ [R]).map fun r => Da.tuple [wordT r, .list (intsD (spL word r))]) ++ names.map fun R : Str => prT word (r ++ [R]))) from if_pos (by rw [List.length_map, List.length_map]; omega), Option.bind_some]
        refine ⟨_, rfl, ?_⟩
        rw [List.flatMap_append, List.map_append, List.flatMap_singleton, List.map_map]
        rfl
      · subst hj
        rw [show appU (.list (((List.range done.length).map (lvT word names)) ++ [done.length].map (lvT word names))) (.list (((rowsA names done.length).flatMap fun r => names.map fun R => r ++ [R]).map (prT word))) = some (.list ((((List.range done.length).map (lvT word names)) ++ [done.length].map (lvT word names)) ++ [lvT word names (done.length + 1)])) from if_pos (by rw [List.length_append, List.length_map, List.length_range, List.length_map, List.length_singleton]; omega), Option.bind_some]
        refine ⟨_, rfl, by rw [List.length_append, List.length_singleton]; omega, ?_⟩
        rw [List.length_append, List.length_singleton, List.range_succ (n := done.length + 1), List.range_succ (n := done.length), List.map_append, List.map_append]
        rfl
    · obtain ⟨_, rfl⟩ := hj
      rw [List.length_range]
      exact ⟨_, rfl, rfl⟩
  obtain ⟨r, e, rfl⟩ := key
  exact uC_of (v := .one (.w (.r _))) (tx_law_leveled e)
end
end K04
namespace K04
open PySem PySem.Spec PyProof.Rows L2 Gk Vm Wo Mth
section
variable {word names : List Str}
theorem word_lay (h : ∀ z ∈ word, PyData.strOk z = true) : LayD (wordT word) 1 := lay_tup (k := 0) fun x m => by
  obtain ⟨z, mz, rfl⟩ := List.mem_map.mp m
  exact lay_str (h z mz)
theorem word_nb : nbD (wordT word) = true := nbA_of fun x m => by
  obtain ⟨z, mz, rfl⟩ := List.mem_map.mp m
  rfl
theorem lay_rows {rows : List (List Str)} (h : ∀ r ∈ rows, ∀ z ∈ r, PyData.strOk z = true) : LayD (.list (rows.map wordT)) 2 := lay_list (k := 1) fun x m => by
  obtain ⟨r, mr, rfl⟩ := List.mem_map.mp m
  exact word_lay (h r mr)
theorem nb_rows {rows : List (List Str)} : nbD (.list (rows.map wordT)) = true := nbA_of fun x m => by
  obtain ⟨r, _, rfl⟩ := List.mem_map.mp m
  exact word_nb
open Classical in
theorem ne_same {rows : List (List Str)} (h : ∀ r ∈ rows, ∀ z ∈ r, PyData.strOk z = true) : fNeS (.list (rows.map wordT)) (.list (rows.map wordT)) = some (.bool false) := by
  rw [ne_lay (lay_rows h) (lay_rows h) (by decide) (by decide) nb_rows nb_rows, decide_eq_true rfl]
  rfl
theorem shd_b (b : Bool) : ShD (.bool b) 0 8 := by cases b <;> exact ⟨_, rfl, by constructor <;> decide +kernel⟩
theorem shd_row {row : List Str} (hN : ∀ z ∈ row, Nm z) (hl : row.length ≤ 24) : ShD (wordT row) 1 1539 := shd_tup 24 (k := 0) (n := 62) (fun x m => by
  obtain ⟨z, mz, rfl⟩ := List.mem_map.mp m
  exact shd_nm (hN z mz)) (by rw [List.length_map]; exact hl) (by decide)
theorem ints_2000 : ∀ b : Fin 2000, ((PyData.int ((b.val : Nat) : Int)).showable && (decide ((PyData.int ((b.val : Nat) : Int)).depth ≤ 0) && (decide ((PyData.int ((b.val : Nat) : Int)).shown.length ≤ 8) && !(PyData.int ((b.val : Nat) : Int)).hasDict))) = true := by
  decide +kernel
theorem shd_n {n : Nat} (h : n < 2000) : ShD (.int (n : Int)) 0 8 := by
  have := ints_2000 ⟨n, h⟩
  rw [Bool.and_eq_true, Bool.and_eq_true, Bool.and_eq_true] at this
  obtain ⟨a, b, c, d⟩ := this
  exact ⟨_, rfl, a, of_decide_eq_true b, of_decide_eq_true c, by simpa using d⟩
theorem shd_rows {rows : List (List Str)} (hN : ∀ r ∈ rows, ∀ z ∈ r, Nm z) (hl : ∀ r ∈ rows, r.length ≤ 24) (hm : rows.length ≤ 1000) : ShD (.tuple (rows.map wordT)) 2 1541003 := (shd_tup 1000 (k := 1) (n := 1539) (fun x m => by
  obtain ⟨r, mr, rfl⟩ := List.mem_map.mp m
  exact shd_row (hN r mr) (hl r mr)) (by rw [List.length_map]; exact hm) (by decide)).mono (by decide) (by decide)
theorem shd_pair {a b : Da} {k n : Nat} (ha : ShD a k n) (hb : ShD b k n) : ShD (.tuple [a, b]) (k + 1) (2 * (n + 2) + 3) := shd_tup 2 (List.forall_mem_cons.mpr ⟨ha, List.forall_mem_cons.mpr ⟨hb, fun x m => (List.not_mem_nil m).elim⟩⟩) (by simp) (by decide)
theorem enu_lv (f : Nat → Da) (n : Nat) : enuL (.list ((List.range n).map f)) = some ((List.range n).map fun k : Nat => Da.tuple [.int (k : Int), f k]) := by
  show some (enuD _) = _
  congr 1
  unfold enuD
  apply List.ext_getElem?
  intro i
  rw [List.getElem?_mapIdx, List.getElem?_map, List.getElem?_map]
  by_cases c : i < n
  · rw [List.getElem?_range c]; rfl
  · rw [List.getElem?_eq_none (by rw [List.length_range]; omega)]; rfl
theorem right_n (hw : word.length ≤ 6) (hn : names.length ≤ 3) (hr : names.Pairwise sLt) (hwn : ∀ z ∈ word, z ∈ names) (hN : ∀ z ∈ names, Nm z) : uC F_law_right [.d (wordT word), .d (.list (names.map Da.str))] = some (.bool true) := by
  have lim : LIM = 1000000 := rfl
  have key : Wp (u_law_right (wordT word) (.list (names.map Da.str))) fun r => r = .bool true := by
    unfold u_law_right
    rw [leveled_n (by omega) hn, Option.bind_some, enu_lv, Option.bind_some]
    refine wpb_forE (List.range 7) (fun k : Nat => Da.tuple [.int (k : Int), lvT word names k]) (fun _ _ => True) trivial (fun done k rest s ed _ => ?_) fun s _ => (by rw [lpK_nx]; exact ⟨_, rfl, rfl⟩)
    have hk : k ≤ 6 := by
      have : k ∈ List.range 7 := by rw [← ed]; simp
      have := List.mem_range.mp this
      omega
    have pw : 3 ^ k ≤ 729 := Nat.pow_le_pow_right (n := 3) (by decide) hk
    have hA := rowsA_len hn k
    have dq := due_eq hr hwn k
    have hc : cntR word k 0 ≤ 729 := by
      rw [← rowsG_len, ← dq]
      exact Nat.le_trans (List.length_filter_le ..) (by omega)
    have hG : (rowsG word k 0).length = cntR word k 0 := rowsG_len word k 0
    have gm : ∀ r ∈ rowsG word k 0, r.length ≤ 24 ∧ ∀ z ∈ r, Nm z := fun r m => ⟨by rw [rowsG_size word k 0 r m]; omega, fun z mz => hN z (hwn z (rw_names (rowsG_mem.mp m).2 z mz))⟩
    rw [un2_t, Option.bind_some]
    dsimp only
    have inS : ∀ r : List Str, (fIn false) (.int (word.length : Int)) (.list (intsD (spL word r))) = some (.bool (rwB word 0 r)) := fun r => by
      rw [in_ends]
      congr 2
      rw [Bool.eq_iff_iff, decide_eq_true_iff]
      exact spL_iff (by omega) r
    have f1 : flatU (fun q_1 : Da => (un2 q_1).bind fun (row, spots) => (fLenB [wordT word]).bind fun e_1 => ((fIn false) e_1 spots).bind fun e_2 => (asB e_2).bind fun t => cond t (some [row]) (some [])) ((rowsA names k).map (prT word)) = some ((rowsG word k 0).map wordT) := by
      rw [← dq]
      refine flatU_f (p := fun r => rwB word 0 r) (g := wordT) fun r _ => ?_
      unfold prT
      rw [un2_t, Option.bind_some]
      dsimp only
      rw [len_word, Option.bind_some, inS, Option.bind_some, asB_b, Option.bind_some]
      cases rwB word 0 r <;> rfl
    have f2 : flatU (fun q_2 : Da => (un2 q_2).bind fun (row_1, spots_1) => (uC F_is_wound [AV.d (wordT word), AV.d row_1, AV.d (Da.int 0)]).bind fun e_3 => some [e_3]) ((rowsA names k).map (prT word)) = some ((rowsA names k).map fun r => Da.bool (rwB word 0 r)) := by
      refine flatU_1 (g := fun r => Da.bool (rwB word 0 r)) fun r _ => ?_
      unfold prT
      rw [un2_t, Option.bind_some]
      dsimp only
      rw [wound_n (by omega), Option.bind_some]
    have f3 : flatU (fun q_3 : Da => (un2 q_3).bind fun (row_2, spots_2) => (fLenB [wordT word]).bind fun e_5 => ((fIn false) e_5 spots_2).bind fun e_6 => some [e_6]) ((rowsA names k).map (prT word)) = some ((rowsA names k).map fun r => Da.bool (rwB word 0 r)) := by
      refine flatU_1 (g := fun r => Da.bool (rwB word 0 r)) fun r _ => ?_
      unfold prT
      rw [un2_t, Option.bind_some]
      dsimp only
      rw [len_word, Option.bind_some, inS, Option.bind_some]
    have itl : iterU (lvT word names k) = some ((rowsA names k).map (prT word)) := rfl
    obtain ⟨z1, ez1⟩ : ∃ z, fRepr [.list ((rowsA names k).map fun r => Da.bool (rwB word 0 r))] = some (.str z) := repr_go (shd_lst 1000 (k := 0) (n := 8) (fun x m => by
      obtain ⟨r, _, rfl⟩ := List.mem_map.mp m
      exact shd_b _) (by rw [List.length_map]; omega) (by decide)) (by decide) (by decide)
    have sr := shd_rows (rows := rowsG word k 0) (fun r m => (gm r m).2) (fun r m => (gm r m).1) (by omega)
    obtain ⟨z2, ez2⟩ : ∃ z, fRepr [.tuple [.int (cntR word k 0 : Int), .tuple ((rowsG word k 0).map wordT)]] = some (.str z) := repr_go (shd_pair ((shd_n (n := cntR word k 0) (by omega)).mono (by decide) (by decide)) sr) (by decide) (by decide)
    obtain ⟨z3, ez3⟩ : ∃ z, fRepr [.int (cntR word k 0 : Int)] = some (.str z) := repr_go (shd_n (n := cntR word k 0) (by omega)) (by decide) (by decide)
    obtain ⟨z4, ez4⟩ : ∃ z, fRepr [.int (-1)] = some (.str z) := repr_go (k := 0) (n := 8) ⟨_, rfl, by constructor <;> decide +kernel⟩ (by decide) (by decide)
    rw [itl, Option.bind_some, f1, Option.bind_some, limU_ok (by rw [List.length_map]; omega), Option.bind_some, Option.bind_some, Option.bind_some, f2, Option.bind_some, limU_ok (by rw [List.length_map]; omega), Option.bind_some, Option.bind_some, ez1, Option.bind_some, Option.bind_some, f3, Option.bind_some, limU_ok (by rw [List.length_map]; omega), Option.bind_some, ez1, Option.bind_some, neS_str, Option.bind_some, asB_b, Option.bind_some, cond_false,
      show uC F_count_wound [AV.d (wordT word), AV.d (.int (k : Int))] = _ from count_n (by omega) (by omega), Option.bind_some, show uC F_wound_rows [AV.d (wordT word), AV.d (.int (k : Int))] = _ from rows_g (by omega) (by omega) (by omega), Option.bind_some, ez2, Option.bind_some, len_l, List.length_map, hG, Option.bind_some, tup_l, Option.bind_some, ez2, Option.bind_some, neS_str, Option.bind_some, asB_b, Option.bind_some, cond_false, Option.bind_some, rg1_n (by omega), Option.bind_some]
    have f4 : flatU (fun number : Da => (uC F_wound_at [AV.d (wordT word), AV.d (.int (k : Int)), AV.d number]).bind fun e_17 => some [e_17]) ((List.range (cntR word k 0)).map fun k : Nat => Da.int (k : Int)) = some ((rowsG word k 0).map wordT) := by
      have e : (rowsG word k 0).map wordT = (List.range (cntR word k 0)).map fun i => wordT (((rowsG word k 0)[i]?).getD []) := by
        apply List.ext_getElem?
        intro i
        rw [List.getElem?_map, List.getElem?_map]
        by_cases c : i < cntR word k 0
        · rw [List.getElem?_range c, List.getElem?_eq_getElem (by omega), Option.map_some, Option.map_some, List.getElem?_eq_getElem (by omega)]; rfl
        · rw [List.getElem?_eq_none (by omega), List.getElem?_eq_none (by rw [List.length_range]; omega)]; rfl
      rw [e]
      refine flatU_1 (g := fun i : Nat => wordT (((rowsG word k 0)[i]?).getD [])) fun i mi => ?_
      have hi := List.mem_range.mp mi
      rw [show uC F_wound_at [AV.d (wordT word), AV.d (.int (k : Int)), AV.d (.int (i : Int))] = _ from wound_at_n (row := (rowsG word k 0)[i]'(by omega)) (by omega) (by omega) (List.getElem?_eq_getElem (by omega)), Option.bind_some, List.getElem?_eq_getElem (by omega)]
      rfl
    rw [f4, Option.bind_some, limU_ok (by rw [List.length_map]; omega), Option.bind_some, ne_same (fun r m z mz => nm_ok ((gm r m).2 z mz)), Option.bind_some, asB_b, Option.bind_some, cond_false, Option.bind_some,
      show uC F_law_is_none [AV.d (wordT word), AV.d (.int (k : Int)), AV.d (.int (cntR word k 0 : Int))] = _ from none_u (by omega) (by omega) (.inr (Int.le_refl _)) ez3, Option.bind_some, tru_b, Bool.not_true, cond_false, show fNeg (.int 1) = some (.int (-1)) from rfl, Option.bind_some, show uC F_law_is_none [AV.d (wordT word), AV.d (.int (k : Int)), AV.d (.int (-1))] = _ from none_u (by omega) (by omega) (.inl (by decide)) ez4, Option.bind_some, tru_b, Bool.not_true, Option.bind_some, cond_false]
    exact ⟨_, rfl, _, rfl, trivial⟩
  obtain ⟨r, e, rfl⟩ := key
  exact uC_of (v := .one (.d _)) (tx_law_right e)
theorem in_strs {z : Str} (hz : ∀ x ∈ names, x ≠ z) : (fIn true) (.str z) (.list (names.map Da.str)) = some (.bool true) := by
  have e : fInB (.str z) (.list (names.map Da.str)) = some false := by
    show (if flatD (Da.str z) = true ∧ (names.map Da.str).all flatD = true then some ((names.map Da.str).any fun y => eqF y (.str z)) else _) = _
    have a1 : (names.map Da.str).all flatD = true := by rw [List.all_map]; exact List.all_eq_true.mpr fun _ _ => rfl
    rw [if_pos ⟨rfl, a1⟩]
    congr 1
    rw [Bool.eq_false_iff]
    intro h
    obtain ⟨y, my, h⟩ := List.any_eq_true.mp h
    obtain ⟨x, mx, rfl⟩ := List.mem_map.mp my
    exact hz x mx (eq_of_beq h)
  unfold fIn
  rw [e]
  rfl
theorem law_u {ns : List Int} : Wp (u_law ns) fun r => r = .bool true := by
  have lim : LIM = 1000000 := rfl
  unfold u_law
  refine turns_u (m := 2) (by decide) (by decide) fun t ht => ?_
  refine wpb_forE _ _ (fun _ _ => True) trivial (fun done k rest s ed _ => ?_) fun s _ => ?_
  · have hk : k < t := by
      have : k ∈ List.range t := by rw [← ed]; simp
      exact List.mem_range.mp this
    obtain ⟨p, e, P⟩ := pot_u (ns := ns) (k := k) (by omega)
    rw [e, Option.bind_some]
    obtain ⟨a, p1, e, ha, P⟩ := take_u (fx := false) P (m := 3) (by decide) (by decide)
    rw [e, Option.bind_some]
    dsimp only
    rw [one_add, Option.bind_some]
    obtain ⟨names, p2, e, P, hl, hN, hnd⟩ := names_ub (fx := false) P (k := a + 1) (by omega)
    rw [e, Option.bind_some]
    dsimp only
    obtain ⟨word, p3, e, P, hwl, hwm⟩ := word_u (fx := false) P (names := names) (most := 6) (fun z => by rw [z] at hl; cases hl) (by omega) (by decide) (by decide)
    rw [e, Option.bind_some]
    dsimp only
    obtain ⟨ns2, e2, l2, m2, nd2, N2⟩ : ∃ ns2 : List Str, ((fLenB [.list (names.map Da.str)]).bind fun e_21 => (fLtA e_21 (Da.int 3)).bind fun e_22 => (asB e_22).bind fun t_1 => (cond t_1 (((fIn true) (Da.str (Str.ofString "qq")) (.list (names.map Da.str))).bind fun e_23 => some e_23) (some (Da.bool false))).bind fun e_24 => (fInt [e_24]).bind fun e_26 => (fRep (Da.list [(Da.str (Str.ofString "qq"))]) e_26).bind fun e_27 => fAdd (.list (names.map Da.str)) e_27) = some (.list (ns2.map Da.str)) ∧ ns2.length ≤ 3 ∧ (∀ z ∈ names, z ∈ ns2) ∧ ns2.Nodup ∧ ∀ z ∈ ns2, Nm z := by
      rw [len_l, List.length_map, Option.bind_some, show fLtA (.int (names.length : Int)) (.int 3) = some (.bool (decide (names.length < 3))) from ltA_n (j := 3), Option.bind_some, asB_b, Option.bind_some]
      by_cases c : names.length < 3
      · rw [decide_eq_true c, cond_true, show (fIn true) (Da.str (Str.ofString "qq")) (.list (names.map Da.str)) = _ from in_strs fun x m => (hN x m).2, Option.bind_some, Option.bind_some, show fInt [.bool true] = some (.int 1) from rfl, Option.bind_some, show fRep (Da.list [(Da.str (Str.ofString "qq"))]) (.int 1) = some (.list [.str (Str.ofString "qq")]) from rfl, Option.bind_some, add_ll (by rw [List.length_map]; show names.length + 1 ≤ LIM; omega)]
        refine ⟨names ++ [Str.ofString "qq"], by rw [List.map_append]; rfl, by rw [List.length_append]; show names.length + 1 ≤ 3; omega, fun z m => List.mem_append_left _ m, ?_, ?_⟩
        · exact List.nodup_append.mpr ⟨hnd, by simp, fun x mx y my => by rw [List.mem_singleton.mp my]; exact (hN x mx).2⟩
        · intro z m
          rcases List.mem_append.mp m with m | m
          · exact (hN z m).1
          · rw [List.mem_singleton.mp m]
            exact ⟨by decide +kernel, by decide +kernel, by decide +kernel⟩
      · rw [decide_eq_false c, cond_false, Option.bind_some, show fInt [.bool false] = some (.int 0) from rfl, Option.bind_some, show fRep (Da.list [(Da.str (Str.ofString "qq"))]) (.int 0) = some (.list []) from rfl, Option.bind_some, add_ll (by rw [List.length_map]; show names.length + 0 ≤ LIM; omega), List.append_nil]
        exact ⟨names, rfl, by omega, fun z m => m, hnd, fun z m => (hN z m).1⟩
    obtain ⟨ys, e3, ws, rfl, pm, pw⟩ := sort_strs_pw ns2
    have fin : uC F_law_right [AV.d (wordT word), AV.d (.list (ws.map Da.str))] = some (.bool true) := right_n (by omega) (by rw [pm.length_eq]; exact l2) (sLt_pw pw (pm.nodup_iff.mpr nd2)) (fun z m => pm.mem_iff.mpr (m2 z (hwm z m))) fun z m => N2 z (pm.mem_iff.mp m)
    obtain ⟨x1, q1, e2⟩ := Option.bind_eq_some_iff.mp e2
    obtain ⟨x2, q2, e2⟩ := Option.bind_eq_some_iff.mp e2
    obtain ⟨x3, q3, e2⟩ := Option.bind_eq_some_iff.mp e2
    obtain ⟨x4, q4, e2⟩ := Option.bind_eq_some_iff.mp e2
    obtain ⟨x5, q5, e2⟩ := Option.bind_eq_some_iff.mp e2
    obtain ⟨x6, q6, e2⟩ := Option.bind_eq_some_iff.mp e2
    rw [q1, Option.bind_some, q2, Option.bind_some, q3, Option.bind_some, q4, Option.bind_some, q5, Option.bind_some, q6, Option.bind_some, e2, Option.bind_some, show uSortM [Da.list (ns2.map Da.str)] = some (ws.map Da.str) from e3, Option.bind_some, fin, Option.bind_some, tru_b, Bool.not_true, cond_false]
    exact ⟨_, rfl, _, rfl, trivial⟩
  · rw [lpK_nx]
    exact ⟨_, rfl, rfl⟩
theorem law_ok {ns : List Int} (hl : ns.length ≤ 63) : F_law [.sc ns] = some (.one (.d (.bool true)), [.sc ns]) := by
  obtain ⟨x, e, rfl⟩ := law_u (ns := ns)
  exact tx_law e
end
end K04
namespace Vm
open PySem PySem.Spec PyProof.Rows L2 Gk
/-- a table: its name, its keys and values -/
abbrev TbV := Str × List (Str × Str)
def tabOf (q : TbV) : He.Tab := (fun K => He.ga K q.1, q.2.map (·.1))
def valOf (K : PySem.W.Frag) (q : TbV) : Bool := He.valsB K (He.ga K q.1) (q.2.map fun kv => (kv.1, .str kv.2))
def frX (n : Nat) (g : Addr → Option Obj) : PySem.W.Frag := He.frG g (He.asD g n ++ [cStatics, sysModules])
def sysB (K : PySem.W.Frag) : Bool := (K.lookup sysModules).isSome
theorem sysB_ok {K : PySem.W.Frag} (h : sysB K = true) : SysK K := Option.isSome_iff_exists.mp h
def obsX (n : Nat) (fa : List He.Fa) (fn : List He.DefD) (ts : List TbV) (g : Addr → Option Obj) : He.AlT × Bool :=
  (He.obsT fa fn (ts.map tabOf) (frX n g), (dig (frX n g) && sysB (frX n g)) && ts.all (valOf (frX n g)))
structure SaysX (fa : List He.Fa) (fn : List He.DefD) (ts : List TbV) (w : World) (K : PySem.W.Frag) : Prop where
  t : He.SaysT fa fn (ts.map tabOf) w K
  dg : dig K = true
  sm : sysB K = true
  vals : ts.all (valOf K) = true
/-- the promise of a law whose function answers True -/
theorem law_sp {K : PySem.W.Frag} {F : FV} {H : Hp} {a : Addr} {ns : List Int} {E : XK} (hF : F [.sc ns] = some (.one (.d (.bool true)), [.sc ns])) (hS : SqL K H a (ns.map V.int)) (hT : TabP [] H := by exact ⟨fun _ m => (List.not_mem_nil m).elim, fun _ m => (List.not_mem_nil m).elim⟩) : spV K F [.ref a] H (fun v _ => v = .bl true) E := by
  refine ⟨[], [.sc ns], fun _ => [], _, _, ?_, hF, ?_⟩
  · refine ⟨rfl, fun i r e => ?_, fun _ _ => rfl, fun _ => .nil, fun i j a m => (List.not_mem_nil m).elim, fun i a m => (List.not_mem_nil m).elim, fun a m => (List.not_mem_nil m).elim, hT⟩
    cases i with
    | zero =>
      cases e
      exact ⟨rfl, a, rfl, hS.elim (fun h => .inl ⟨List.not_mem_nil, h⟩) .inr⟩
    | succ i => simp at e
  · rintro p' H' A' v _ _ ⟨as, h, _⟩
    cases h with
    | d dz _ => cases dz; rfl
end Vm
namespace Vm
open PySem PySem.Spec PyProof.Rows L2 Gk NdefX
/-- a class of errors with an __init__ of its own: its words -/
structure ClsD where
  cn : Str
  qual : Str
  params : Arguments
  body : List Stmt
  scope : Scope
abbrev IniW : Type := Option (Str × Str × Arguments × FuncBody × Scope × Addr × Addr)
def ClsD.val (d : ClsD) : IniW := some ("__init__", d.qual, d.params, .stmts d.body, d.scope, mainGlobals, builtinsNs)
abbrev iniA (K : PySem.W.Frag) (cn : Str) : Addr := He.ma K (He.ga K cn) "__init__"
def iniW (K : PySem.W.Frag) (cn : Str) : IniW := match K.lookup (iniA K cn) with
  | some ⟨_, _, .func fd, _⟩ => some (fd.name, fd.qualname, fd.params, fd.body, fd.scope, fd.globals, fd.builtins)
  | _ => none
def cloB (K : PySem.W.Frag) (C : Addr) (cl : List (Str × Addr)) : Bool := match cl with
  | [(x, cc)] => x == ("__class__" : Str) && (match K.lookup cc with
    | some ⟨_, _, .cell (some (.ref C')), _⟩ => C' == C
    | _ => false)
  | _ => false
def codB (K : PySem.W.Frag) (mf : Str) (cd : Value) : Bool := match cd with
  | .ref c => (match K.lookup c with
    | some ⟨_, _, .fields vs, _⟩ => (match (vs[2]? : Option Value) with
      | some (Value.str file _) => mf == file
      | _ => false)
    | _ => false)
  | _ => false
def dfB (a b : Value) : Bool := match a, b with
  | .none, .none => true
  | _, _ => false
theorem dfB_ok {a b : Value} (h : dfB a b = true) : a = .none ∧ b = .none := by
  unfold dfB at h
  split at h
  · exact ⟨rfl, rfl⟩
  · cases h
def iniB (K : PySem.W.Frag) (mf : Str) (d : ClsD) : Bool := match K.lookup (iniA K d.cn) with
  | some ⟨_, _, .func fd, _⟩ => cloB K (He.ga K d.cn) fd.closure && (PySem.W.codeIn K fd.code d.qual && (codB K mf fd.code && dfB fd.defaults fd.kwdefaults))
  | _ => false
def oexB (K : PySem.W.Frag) (C : Addr) : Bool := (match K.lookup C with
  | some ⟨.type "type", _, .cls cd, sl⟩ => (match cd.mro, sl.toList with
    | .ref C' :: bm, [_, _, _, _, some (.builtin n), _] => C' == C && (n == "ValueError.__new__" && (cd.hasDict && (!cd.hasDel && PySem.HandSPX.refsVE bm)))
    | _, _ => false)
  | _ => false) && (He.eqO (PySem.W.findIn K (.ref C) "__setattr__") (some (some (.builtin "object.__setattr__"))) && (decide (PySem.W.subIn K (.ref C) (.type "BaseException") = some true) && (decide (PySem.W.typeIn K (.ref C) = some (.type "type")) && PySem.W.keepIn K (.ref C))))
def supB (K : PySem.W.Frag) (C : Addr) : Bool := He.eqO (PySem.W.nsIn K cStatics "thirdparty.any") (some none) && (He.eqO (PySem.W.ks_superIn K C C "__init__") (some (some (.builtin "ValueError.__init__"))) && (decide (PySem.W.subIn K (.ref C) (.type "ValueError") = some true) && (decide (PySem.W.mroIn K C (.ref C) = some true) &&
  (He.eqO (PySem.W.findIn K (.ref C) "__init__") (some (some (.ref (He.ma K C "__init__")))) && decide (PySem.W.typeIn K (.ref (He.ma K C "__init__")) = some (.type "function"))))))
def excB (K : PySem.W.Frag) (C : Addr) : Bool := xfB K C && (He.eqO (PySem.W.findIn K (.ref C) "__class__") (some (some (.builtin "object.__class__"))) && (He.eqO (PySem.W.specialIn K (.builtin "object.__class__") "__get__") (some (some (.builtin "getset_descriptor.__get__"))) && (decide (PySem.W.takesIn K (.builtin "object.__class__") = some true) && decide (PySem.W.mroIn K C (.type "object") = some true))))
section
variable {K : PySem.W.Frag} {C : Addr} {P : Program} {w : World} {mg : Str → Option Value} {base : Heap}
theorem and2 {a b : Bool} (h : (a && b) = true) : a = true ∧ b = true := Bool.and_eq_true_iff.mp h
theorem excB_ok (h : excB K C = true) : ExcC K C ∧ XfC K C := by
  obtain ⟨h1, h⟩ := and2 h
  obtain ⟨h2, h⟩ := and2 h
  obtain ⟨h3, h⟩ := and2 h
  obtain ⟨h4, h5⟩ := and2 h
  have x := xfB_ok h1
  exact ⟨⟨x.ga, x.gg, x.exC, x.hdC, He.eqO_ok h2, He.eqO_ok h3, of_decide_eq_true h4, of_decide_eq_true h5⟩, x⟩
theorem oexB_ok (h : oexB K C = true) : OexC K C := by
  obtain ⟨h1, h⟩ := and2 h
  obtain ⟨h2, h⟩ := and2 h
  obtain ⟨h3, h⟩ := and2 h
  obtain ⟨h4, h5⟩ := and2 h
  refine ⟨?_, He.eqO_ok h2, of_decide_eq_true h3, of_decide_eq_true h4, h5⟩
  split at h1
  · rename_i dd cd sl ho
    split at h1
    · rename_i C' bm k0 k1 k2 k3 n k5 hm hs
      obtain ⟨q1, h1⟩ := and2 h1
      obtain ⟨q2, h1⟩ := and2 h1
      obtain ⟨q3, h1⟩ := and2 h1
      obtain ⟨q4, q5⟩ := and2 h1
      obtain rfl := beq_iff_eq.mp q1
      obtain rfl := beq_iff_eq.mp q2
      obtain ⟨nm, bs, mro, ns, qn, hd, sn, sub, ab, col, del⟩ := cd
      dsimp only at hm q3 q4
      subst hm q3
      have q4 : del = false := by simpa using q4
      subst q4
      have hsl : sl = #[k0, k1, k2, k3, some (.builtin "ValueError.__new__"), k5] := by
        obtain ⟨l⟩ := sl
        dsimp only at hs
        rw [hs]
      subst hsl
      exact ⟨nm, qn, ns, bs, bm, sn, sub, ab, col, dd, k0, k1, k2, k3, k5, ho, q5⟩
    · cases h1
  · cases h1
/-- the class, whole: one field -/
theorem clE_1 {d : ClsD} {slf x fx txt : Str} {n : Nat} {p0 p1 p2 p3 p4 p5 q0 q1 q2 q3 : Pos} {pl : PySem.Env → Sem Bool} {mf : Str} (hw : iniW K d.cn = d.val) (hb : iniB K mf d = true) (ho : oexB K (He.ga K d.cn) = true) (hs : supB K (He.ga K d.cn) = true) (hno : PySem.W.findIn K (.ref (He.ga K d.cn)) fx = some none)
    (hmg : mg d.cn = some (.ref (He.ga K d.cn))) (msup : mg "super" = none) (mfe : P.main.file = mf) (top : (P.main.scope.names.lookup ("super" : Str)).isSome = false)
    (S : NSc [slf, x, "__class__"] [slf, x] ["__class__"] d.scope) (hbody : d.body = [.Expr (supCall txt n p0 p1 p2 p3 p4) p5, selfSet slf fx x q0 q1 q2 q3]) (k2 : d.scope.names.lookup ("super" : Str) = some .globalImplicit)
    (hd : ∃ ar, (d.params.posonlyargs ++ d.params.args).head? = some ar ∧ ar.arg = slf)
    (sw : ∀ (f L c : Addr) (cl : List (Str × Addr)), interactive (envY ⟨"__init__", d.qual, d.params, d.body, d.scope, cl, c⟩ f L) = false)
    (he : ∀ env : PySem.Env, eval (supCall txt n p0 p1 p2 p3 p4) env = (do
      let ov ← attributeBase (.Call (.Name "super" p0) [] [] p1) "__init__" env (eval (.Call (.Name "super" p0) [] [] p1) env)
      standAt p2.atName
      let (f, first) ← holding [ov] (getMethod ov "__init__" (pl env))
      callWith p4 f first (backTo p4 (starEach [.Constant (.str txt) n p3] env)) []))
    (bd : ∀ (cl : List (Str × Addr)) (doc pm cdv ct : Value) (an : Option Addr) (us : List Value), us.length = 2 → bindArgs (PySem.W.fnX "__init__" d.qual d.params d.body d.scope cl .none .none doc pm an cdv ct) ⟨us, []⟩ = pure ([slf, x].zip us))
    (d0 : (slf == ("__debug__" : Str)) = false := by decide) (c0 : (slf == ("__classdict__" : Str)) = false := by decide) (d1 : (x == ("__debug__" : Str)) = false := by decide) (c1 : (x == ("__classdict__" : Str)) = false := by decide) :
    ClE P w K mg base 1 d.cn [fx] := by
  unfold iniW at hw
  unfold iniB at hb
  obtain ⟨s1, hs⟩ := and2 hs
  obtain ⟨s2, hs⟩ := and2 hs
  obtain ⟨s3, hs⟩ := and2 hs
  obtain ⟨s4, hs⟩ := and2 hs
  obtain ⟨s5, s6⟩ := and2 hs
  cases q : K.lookup (iniA K d.cn) with
  | none => rw [q] at hb; cases hb
  | some o =>
    obtain ⟨oc, od, dt, osl⟩ := o
    rw [q] at hb hw
    cases dt with
    | func fd =>
      obtain ⟨n1, n2, n3, n4, n5, n6, n7, n8, n9, n10, n11, n12, n13, n14, n15⟩ := fd
      have hw2 : (some (n1, n2, n3, n4, n5, n6, n15) : IniW) = some (("__init__" : Str), d.qual, d.params, FuncBody.stmts d.body, d.scope, mainGlobals, builtinsNs) := hw
      simp only [Option.some.injEq, Prod.mk.injEq] at hw2
      obtain ⟨rfl, rfl, rfl, rfl, rfl, rfl, rfl⟩ := hw2
      obtain ⟨b1, b7⟩ := and2 (show (cloB K (He.ga K d.cn) n7 && (PySem.W.codeIn K n13 d.qual && (codB K mf n13 && dfB n8 n9))) = true from hb)
      obtain ⟨b2, b8⟩ := and2 b7
      obtain ⟨b3, b9⟩ := and2 b8
      clear b7 b8 hb
      obtain ⟨rfl, rfl⟩ := dfB_ok b9
      unfold cloB at b1
      split at b1
      · rename_i y cc
        obtain ⟨b4, b5⟩ := and2 b1
        obtain rfl := beq_iff_eq.mp b4
        split at b5
        · rename_i oc2 od2 C' sl2 hcc
          obtain rfl := beq_iff_eq.mp b5
          obtain ⟨c, rfl⟩ : ∃ c, n13 = .ref c := by cases n13 <;> first | exact ⟨_, rfl⟩ | cases b3
          unfold codB at b3
          dsimp only at b3
          · split at b3
            · rename_i oc3 od3 vs sl3 hc
              split at b3
              · rename_i file tf hv
                obtain ⟨ar, ha1, ha2⟩ := hd
                refine ⟨oexB_ok ho, hmg, iniA K d.cn, _, [slf, x], He.eqO_ok s5, of_decide_eq_true s6, ini1 (F := ⟨"__init__", d.qual, d.params, d.body, d.scope, [("__class__", cc)], c⟩) (slf := slf) (x := x) (fx := fx) ⟨⟨oc, .none, .none, n10, n11, n14, od, n12, osl, q, rfl⟩, ⟨cc, oc2, od2, sl2, rfl, hcc⟩, b2⟩ S
                  ⟨⟨oc, od, _, osl, ar, q, ha1, ha2⟩, ⟨oc3, od3, vs, sl3, file, tf, hc, hv, by rw [mfe]; exact b3⟩, top, msup, He.eqO_ok s1, He.eqO_ok s2, of_decide_eq_true s3, of_decide_eq_true s4⟩ (oexB_ok ho) hno hbody k2 (fun L => sw _ L c _) he d0 c0 d1 c1, ?_⟩
                exact Binds.all (bd _ _ _ _ _ _)
              · cases b3
            · cases b3
        · cases b5
      · cases b1
    | _ => cases hb
end
end Vm
namespace Vm
open PySem PySem.Spec PyProof.Rows L2 Gk NdefX
abbrev AlE : Type := ((He.AlT × Bool) × Bool) × List IniW
def clsB (K : PySem.W.Frag) (mf : Str) (d : ClsD) : Bool := iniB K mf d && (oexB K (He.ga K d.cn) && supB K (He.ga K d.cn))
def obsE (n : Nat) (fa : List He.Fa) (fn : List He.DefD) (ts : List TbV) (mf : Str) (cs : List ClsD) (xb : PySem.W.Frag → Bool) (g : Addr → Option Obj) : AlE :=
  ((obsX n fa fn ts g, (cs.all fun d => clsB (frX n g) mf d) && xb (frX n g)), cs.map fun d => iniW (frX n g) d.cn)
structure SaysE (fa : List He.Fa) (fn : List He.DefD) (ts : List TbV) (mf : Str) (cs : List ClsD) (xb : PySem.W.Frag → Bool) (w : World) (K : PySem.W.Frag) : Prop where
  x : SaysX fa fn ts w K
  cb : (cs.all fun d => clsB K mf d) = true
  xb : xb K = true
  wv : (cs.map fun d => iniW K d.cn) = cs.map ClsD.val
def hookE (n : Nat) (fa : List He.Fa) (fn : List He.DefD) (ts : List TbV) (mf : Str) (cs : List ClsD) (xb : PySem.W.Frag → Bool) : PySem.W.Hook where
  α := AlE
  obs := fun s => obsE n fa fn ts mf cs xb s.heap.get?
  val := fun w => (((He.valT fn (ts.map tabOf) w, true), true), cs.map ClsD.val)
  says := fun w h => ∃ K : PySem.W.Frag, K.In h ∧ SaysE fa fn ts mf cs xb w K
  of := fun w s e => by
    have e0 : obsX n fa fn ts s.heap.get? = (He.valT fn (ts.map tabOf) w, true) := congrArg (fun z : AlE => z.1.1) e
    have e1 : ((cs.all fun d => clsB (frX n s.heap.get?) mf d) && xb (frX n s.heap.get?)) = true := congrArg (fun z : AlE => z.1.2) e
    have e2 : (cs.map fun d => iniW (frX n s.heap.get?) d.cn) = cs.map ClsD.val := congrArg (fun z : AlE => z.2) e
    have e3 : ((dig (frX n s.heap.get?) && sysB (frX n s.heap.get?)) && ts.all (valOf (frX n s.heap.get?))) = true := congrArg Prod.snd e0
    obtain ⟨e4, e5⟩ := and2 e3
    obtain ⟨e6, e7⟩ := and2 e4
    obtain ⟨e8, e9⟩ := and2 e1
    exact ⟨frX n s.heap.get?, He.frG_in, ⟨congrArg Prod.fst e0, e6, e7, e5⟩, e8, e9, e2⟩
  keeps := fun _ _ _ ⟨K, hK, c⟩ k => ⟨K, PySem.W.Frag.In.keeps hK k, c⟩
theorem obsE_eq {n : Nat} {fa : List He.Fa} {fn : List He.DefD} {ts : List TbV} {mf : Str} {cs : List ClsD} {xb : PySem.W.Frag → Bool} {g : Addr → Option Obj} {s : Shared} (h : ∀ a, g a = s.heap.get? a) : obsE n fa fn ts mf cs xb g = (hookE n fa fn ts mf cs xb).obs s := by
  have e : g = s.heap.get? := funext h
  subst e
  rfl
theorem SaysE.cls {fa : List He.Fa} {fn : List He.DefD} {ts : List TbV} {mf : Str} {cs : List ClsD} {xb : PySem.W.Frag → Bool} {w : World} {K : PySem.W.Frag} (c : SaysE fa fn ts mf cs xb w K) (i : Nat) {d : ClsD} (h : cs[i]? = some d) :
    iniW K d.cn = d.val ∧ iniB K mf d = true ∧ oexB K (He.ga K d.cn) = true ∧ supB K (He.ga K d.cn) = true := by
  have h1 := List.all_eq_true.mp c.cb d (List.mem_of_getElem? h)
  obtain ⟨h2, h3⟩ := and2 h1
  obtain ⟨h4, h5⟩ := and2 h3
  refine ⟨?_, h2, h4, h5⟩
  have e : (cs.map fun d => iniW K d.cn)[i]? = (cs.map ClsD.val)[i]? := by rw [c.wv]
  rw [List.getElem?_map, List.getElem?_map, h] at e
  exact Option.some.inj e
end Vm
namespace K04
open PySem PySem.Spec PyProof.Rows L2 Gk Vm Wo
abbrev dd (x : Str) (i : Nat) : He.DefD := ⟨(x, none), x, x, defArgs (topS i), defBody (topS i), defScope (topS i), [], []⟩
abbrev ddk (x : Str) (i : Nat) (k : List (Str × He.Dv)) : He.DefD := ⟨(x, none), x, x, defArgs (topS i), defBody (topS i), defScope (topS i), [], k⟩
def fn : List He.DefD := [dd "is_whole" 6, dd "is_place" 7, dd "check_place" 8, dd "backs" 9, dd "here_or_back" 10, dd "going_places" 11, dd "greatest_steps" 14, ddk "is_wound" 15 [("place", .int 0)], dd "count_ends" 16, dd "count_wound" 17, dd "first_step" 18, dd "wound_at" 19, dd "wound_rows" 20, dd "_law_pot" 22, dd "_law_take" 23, dd "_law_of" 24, dd "_law_names" 25, dd "_law_word" 26, dd "_law_winds" 27, dd "_law_behind" 28] ++ [dd "_law_leveled" 29, dd "_law_is_none" 30, dd "_law_right" 31, dd "law" 32]
def fa : List He.Fa := biFa ++ ([He.Fa.glo "is_whole", He.Fa.glo "is_place", He.Fa.glo "check_place", He.Fa.glo "backs", He.Fa.glo "here_or_back", He.Fa.glo "going_places", He.Fa.glo "greatest_steps", He.Fa.glo "is_wound", He.Fa.glo "count_ends", He.Fa.glo "count_wound", He.Fa.glo "first_step", He.Fa.glo "wound_at", He.Fa.glo "wound_rows", He.Fa.glo "_law_pot", He.Fa.glo "_law_take", He.Fa.glo "_law_of", He.Fa.glo "_law_names", He.Fa.glo "_law_word", He.Fa.glo "_law_winds", He.Fa.glo "_law_behind"] ++ [He.Fa.glo "_law_leveled", He.Fa.glo "_law_is_none", He.Fa.glo "_law_right", He.Fa.glo "law"] ++ [He.Fa.int "MOST_ROWS" 1000] ++ [He.Fa.glo "WalkError", He.Fa.glo "NoNumber", He.Fa.free "super", He.Fa.noat "NoNumber" "number", He.Fa.exm "NoNumber" "WalkError" true])
def tb : List TbV := []
abbrev R : PySem.W.OpenRow := PySem.W.OpenLaw.row PySem.Challenge.rw_woundwalks_k04_whole_wound_rows_by_all_r
def clsBody : Stmt → List Stmt
  | .ClassDef (body := b) .. => b
  | _ => []
def initS (i : Nat) : Stmt := (clsBody (topS i)).getD 0 (.Pass ⟨0, 0, 0, 0⟩)
def cNP : ClsD := ⟨"NoNumber", "NoNumber.__init__", defArgs (initS 3), defBody (initS 3), defScope (initS 3)⟩
def cs : List ClsD := [cNP]
def xb (K : PySem.W.Frag) : Bool := excB K (He.ga K "NoNumber") && decide (PySem.W.kitOne K (.ref (He.ga K "NoNumber")) (.ref (He.ga K "NoNumber")) = some true)
def plNP (env : PySem.Env) : Sem Bool := do return (← importBound (.Call (.Name "super" ⟨12, 8, 12, 13⟩) [] [] ⟨12, 8, 12, 15⟩) env).getD true
def mf : Str := PySem.Challenge.pw_woundwalks_k04_whole_wound_rows_by_all_r.main.file
abbrev hk : PySem.W.Hook := hookE 5 fa fn tb mf cs xb
def ob (s : PySem.W.SharedT) : AlE := obsE 5 fa fn tb mf cs xb (HandSHeadRun.getT s)
theorem ob_eq (s : PySem.W.SharedT) : ob s = hk.obs s.abs := obsE_eq (HandSHeadRun.getT_eq s)
def loose : List Str := [("is_whole" : Str), ("is_place" : Str), ("check_place" : Str), ("backs" : Str), ("here_or_back" : Str), ("going_places" : Str), ("greatest_steps" : Str), ("is_wound" : Str), ("count_ends" : Str), ("count_wound" : Str), ("first_step" : Str), ("wound_at" : Str), ("wound_rows" : Str), ("_law_pot" : Str), ("_law_take" : Str), ("_law_of" : Str), ("_law_names" : Str), ("_law_word" : Str), ("_law_winds" : Str), ("_law_behind" : Str)] ++ [("_law_leveled" : Str), ("_law_is_none" : Str), ("_law_right" : Str), ("NoNumber" : Str), ("NoPlace" : Str), ("TooMany" : Str), ("WalkError" : Str), ("MOST_ROWS" : Str)]
theorem run (w : World) : HandSHeadRun.RunEq R (PySem.W.view R.prog [32]) hk ob 3000 loose w := by
  intro os
  kernel_rfl
section
variable {P : Program} {w : World} {K : PySem.W.Frag} {mg : Str → Option Value} {h : Heap} {f : Addr}
theorem facts (X : K.In h) (G : h.Ns mainGlobals mg) (hfa : mg ("law" : Str) = some (.ref f)) (c1 : SaysE fa fn tb mf cs xb w K) (mfe : P.main.file = mf) (top : (P.main.scope.names.lookup ("super" : Str)).isSome = false) :
    ∃ fd : FuncData, (∀ (s : Shared) (v : Value), BindsTo s fd ⟨[v], []⟩ [("_law_script", v)]) ∧
      ∀ base : Heap, K.In base → base.Ns mainGlobals mg → FnG P w K mg base CX0 11 f fd ["_law_script"] (spV K F_law) := by
  have c0 := c1.x
  have c := c0.t.d
  have dg := c0.dg
  obtain ⟨d0, F0⟩ := c.def_ 0 (d := dd "is_whole" 6) rfl
  obtain ⟨d1, F1⟩ := c.def_ 1 (d := dd "is_place" 7) rfl
  obtain ⟨d2, F2⟩ := c.def_ 2 (d := dd "check_place" 8) rfl
  obtain ⟨d3, F3⟩ := c.def_ 3 (d := dd "backs" 9) rfl
  obtain ⟨d4, F4⟩ := c.def_ 4 (d := dd "here_or_back" 10) rfl
  obtain ⟨d5, F5⟩ := c.def_ 5 (d := dd "going_places" 11) rfl
  obtain ⟨d6, F6⟩ := c.def_ 6 (d := dd "greatest_steps" 14) rfl
  obtain ⟨d7, F7⟩ := c.def_ 7 (d := ddk "is_wound" 15 [("place", .int 0)]) rfl
  obtain ⟨d8, F8⟩ := c.def_ 8 (d := dd "count_ends" 16) rfl
  obtain ⟨d9, F9⟩ := c.def_ 9 (d := dd "count_wound" 17) rfl
  obtain ⟨d10, F10⟩ := c.def_ 10 (d := dd "first_step" 18) rfl
  obtain ⟨d11, F11⟩ := c.def_ 11 (d := dd "wound_at" 19) rfl
  obtain ⟨d12, F12⟩ := c.def_ 12 (d := dd "wound_rows" 20) rfl
  obtain ⟨d13, F13⟩ := c.def_ 13 (d := dd "_law_pot" 22) rfl
  obtain ⟨d14, F14⟩ := c.def_ 14 (d := dd "_law_take" 23) rfl
  obtain ⟨d15, F15⟩ := c.def_ 15 (d := dd "_law_of" 24) rfl
  obtain ⟨d16, F16⟩ := c.def_ 16 (d := dd "_law_names" 25) rfl
  obtain ⟨d17, F17⟩ := c.def_ 17 (d := dd "_law_word" 26) rfl
  obtain ⟨d18, F18⟩ := c.def_ 18 (d := dd "_law_winds" 27) rfl
  obtain ⟨d19, F19⟩ := c.def_ 19 (d := dd "_law_behind" 28) rfl
  obtain ⟨d20, F20⟩ := c.def_ 20 (d := dd "_law_leveled" 29) rfl
  obtain ⟨d21, F21⟩ := c.def_ 21 (d := dd "_law_is_none" 30) rfl
  obtain ⟨d22, F22⟩ := c.def_ 22 (d := dd "_law_right" 31) rfl
  obtain ⟨d23, F23⟩ := c.def_ 23 (d := dd "law" 32) rfl
  have B : Bi mg := bi_of X G fun i g hi => c.fact i (f := g) (by
    show (biFa ++ _)[i]? = some g
    rw [List.getElem?_append_left (List.getElem?_eq_some_iff.mp hi).1]
    exact hi)
  have g0 := He.glo_ok X G (c.fact 23 (f := .glo "is_whole") rfl)
  have g1 := He.glo_ok X G (c.fact 24 (f := .glo "is_place") rfl)
  have g2 := He.glo_ok X G (c.fact 25 (f := .glo "check_place") rfl)
  have g3 := He.glo_ok X G (c.fact 26 (f := .glo "backs") rfl)
  have g4 := He.glo_ok X G (c.fact 27 (f := .glo "here_or_back") rfl)
  have g5 := He.glo_ok X G (c.fact 28 (f := .glo "going_places") rfl)
  have g6 := He.glo_ok X G (c.fact 29 (f := .glo "greatest_steps") rfl)
  have g7 := He.glo_ok X G (c.fact 30 (f := .glo "is_wound") rfl)
  have g8 := He.glo_ok X G (c.fact 31 (f := .glo "count_ends") rfl)
  have g9 := He.glo_ok X G (c.fact 32 (f := .glo "count_wound") rfl)
  have g10 := He.glo_ok X G (c.fact 33 (f := .glo "first_step") rfl)
  have g11 := He.glo_ok X G (c.fact 34 (f := .glo "wound_at") rfl)
  have g12 := He.glo_ok X G (c.fact 35 (f := .glo "wound_rows") rfl)
  have g13 := He.glo_ok X G (c.fact 36 (f := .glo "_law_pot") rfl)
  have g14 := He.glo_ok X G (c.fact 37 (f := .glo "_law_take") rfl)
  have g15 := He.glo_ok X G (c.fact 38 (f := .glo "_law_of") rfl)
  have g16 := He.glo_ok X G (c.fact 39 (f := .glo "_law_names") rfl)
  have g17 := He.glo_ok X G (c.fact 40 (f := .glo "_law_word") rfl)
  have g18 := He.glo_ok X G (c.fact 41 (f := .glo "_law_winds") rfl)
  have g19 := He.glo_ok X G (c.fact 42 (f := .glo "_law_behind") rfl)
  have g20 := He.glo_ok X G (c.fact 43 (f := .glo "_law_leveled") rfl)
  have g21 := He.glo_ok X G (c.fact 44 (f := .glo "_law_is_none") rfl)
  have g22 := He.glo_ok X G (c.fact 45 (f := .glo "_law_right") rfl)
  have e := hfa.symm.trans (He.glo_ok X G (c.fact 46 (f := .glo "law") rfl))
  cases e
  have C_MOST_ROWS : Con mg "MOST_ROWS" (.int 1000) := let ⟨_, e⟩ := He.int_ok X G (c.fact 47 (f := .int "MOST_ROWS" 1000) rfl); ⟨_, e, _, rfl⟩
  have b23 := FunD.bindsA (ps := ["_law_script"]) F23 fun _ _ _ _ _ _ us hl => match us, hl with | [_], _ => rfl
  refine ⟨d23, fun s v => b23 s [v] rfl, fun base _ _ => ?_⟩
  have hd := He.eqO_ok dg
  have hsys := Vm.sysB_ok c0.sm
  have b0 := F0.bindsN (ps := ["thing"]) fun _ _ _ _ _ _ us hl => match us, hl with | [_], _ => rfl
  have b1 := F1.bindsN (ps := ["word", "thing"]) fun _ _ _ _ _ _ us hl => match us, hl with | [_, _], _ => rfl
  have b2 := F2.bindsN (ps := ["word", "place"]) fun _ _ _ _ _ _ us hl => match us, hl with | [_, _], _ => rfl
  have b3 := F3.bindsN (ps := ["word", "place"]) fun _ _ _ _ _ _ us hl => match us, hl with | [_, _], _ => rfl
  have b4 := F4.bindsN (ps := ["word", "place"]) fun _ _ _ _ _ _ us hl => match us, hl with | [_, _], _ => rfl
  have b5 := F5.bindsN (ps := ["word", "place"]) fun _ _ _ _ _ _ us hl => match us, hl with | [_, _], _ => rfl
  have b6 := F6.bindsN (ps := ["word"]) fun _ _ _ _ _ _ us hl => match us, hl with | [_], _ => rfl
  have k7 : KBn K d7 ["word", "row", "place"] 2 ["place"] (fun us ws => us ++ ws) (fun vs zs => vs ++ zs) := kbn_mk F7 (fun r1 r2 => r1.append r2) fun _ _ _ _ _ _ us ws h1 h2 => match us, ws, h1, h2 with | [_, _], [_], _, _ => rfl
  obtain ⟨ds7, rv7, bd7⟩ := F7.binds0 (ps := ["word", "row", "place"]) 2 (by intro z; cases z) rfl fun D _ _ _ _ _ us ks h1 h2 => match us, ks, h1, h2 with | [_, _], [_], _, _ => ⟨_, _, _, _, _, _, rfl, rfl, rfl⟩
  have b8 := F8.bindsN (ps := ["steps", "size"]) fun _ _ _ _ _ _ us hl => match us, hl with | [_, _], _ => rfl
  have b9 := F9.bindsN (ps := ["word", "size"]) fun _ _ _ _ _ _ us hl => match us, hl with | [_, _], _ => rfl
  have b10 := F10.bindsN (ps := ["leads", "ends", "number"]) fun _ _ _ _ _ _ us hl => match us, hl with | [_, _, _], _ => rfl
  have b11 := F11.bindsN (ps := ["word", "size", "number"]) fun _ _ _ _ _ _ us hl => match us, hl with | [_, _, _], _ => rfl
  have b12 := F12.bindsN (ps := ["word", "size"]) fun _ _ _ _ _ _ us hl => match us, hl with | [_, _], _ => rfl
  have b13 := F13.bindsN (ps := ["_law_script", "_law_k"]) fun _ _ _ _ _ _ us hl => match us, hl with | [_, _], _ => rfl
  have b14 := F14.bindsN (ps := ["_law_pot_here", "_law_upto"]) fun _ _ _ _ _ _ us hl => match us, hl with | [_, _], _ => rfl
  have b15 := F15.bindsN (ps := ["_law_pot_here", "_law_some"]) fun _ _ _ _ _ _ us hl => match us, hl with | [_, _], _ => rfl
  have b16 := F16.bindsN (ps := ["_law_pot_here", "_law_many"]) fun _ _ _ _ _ _ us hl => match us, hl with | [_, _], _ => rfl
  have b17 := F17.bindsN (ps := ["_law_pot_here", "_law_names_here", "_law_most"]) fun _ _ _ _ _ _ us hl => match us, hl with | [_, _, _], _ => rfl
  have b18 := F18.bindsN (ps := ["_law_word_here", "_law_place"]) fun _ _ _ _ _ _ us hl => match us, hl with | [_, _], _ => rfl
  have b19 := F19.bindsN (ps := ["_law_word_here", "_law_spots", "_law_name"]) fun _ _ _ _ _ _ us hl => match us, hl with | [_, _, _], _ => rfl
  have b20 := F20.bindsN (ps := ["_law_word_here", "_law_names_here", "_law_most"]) fun _ _ _ _ _ _ us hl => match us, hl with | [_, _, _], _ => rfl
  have b21 := F21.bindsN (ps := ["_law_word_here", "_law_size", "_law_number"]) fun _ _ _ _ _ _ us hl => match us, hl with | [_, _, _], _ => rfl
  have b22 := F22.bindsN (ps := ["_law_word_here", "_law_names_here"]) fun _ _ _ _ _ _ us hl => match us, hl with | [_, _], _ => rfl
  have o0 : FnG P w K mg base CX0 1 _ d0 ["thing"] (spV K F_is_whole) := ok_is_whole F0 B 
  have o1 : FnG P w K mg base CX0 2 _ d1 ["word", "thing"] (spV K F_is_place) := ok_is_place F1 B ⟨_, _, o0, g0, F0.kp, b0⟩
  have o2 : FnG P w K mg base CX0 3 _ d2 ["word", "place"] (spV K F_check_place) := ok_check_place F2 B ⟨_, _, o1, g1, F1.kp, b1⟩
  have o3 : FnG P w K mg base CX0 4 _ d3 ["word", "place"] (spV K F_backs) := ok_backs F3 B ⟨_, _, o2, g2, F2.kp, b2⟩
  have o4 : FnG P w K mg base CX0 5 _ d4 ["word", "place"] (spV K F_here_or_back) := ok_here_or_back F4 B ⟨_, _, o3, g3, F3.kp, b3⟩
  have o5 : FnG P w K mg base CX0 6 _ d5 ["word", "place"] (spV K F_going_places) := ok_going_places F5 B ⟨_, _, o4, g4, F4.kp, b4⟩
  have o6 : FnG P w K mg base CX0 7 _ d6 ["word"] (spV K F_greatest_steps) := ok_greatest_steps F6 B ⟨_, _, o5, g5, F5.kp, b5⟩
  have o7 : FnG P w K mg base CX0 8 _ d7 ["word", "row", "place"] (spV K F_is_wound) := ok_is_wound F7 B ⟨_, _, o6, g6, F6.kp, b6⟩ ⟨_, _, o2, g2, F2.kp, b2⟩
  have o8 : FnG P w K mg base CX0 1 _ d8 ["steps", "size"] (spV K F_count_ends) := ok_count_ends F8 B 
  have o9 : FnG P w K mg base CX0 8 _ d9 ["word", "size"] (spV K F_count_wound) := ok_count_wound F9 B ⟨_, _, o8, g8, F8.kp, b8⟩ ⟨_, _, o6, g6, F6.kp, b6⟩
  have o10 : FnG P w K mg base CX0 1 _ d10 ["leads", "ends", "number"] (spV K F_first_step) := ok_first_step F10 B 
  have o11 : FnG P w K mg base CX0 8 _ d11 ["word", "size", "number"] (spV K F_wound_at) := ok_wound_at F11 B ⟨_, _, o10, g10, F10.kp, b10⟩ ⟨_, _, o0, g0, F0.kp, b0⟩ ⟨_, _, o8, g8, F8.kp, b8⟩ ⟨_, _, o6, g6, F6.kp, b6⟩
  have o12 : FnG P w K mg base CX0 8 _ d12 ["word", "size"] (spV K F_wound_rows) := ok_wound_rows F12 B ⟨_, _, o8, g8, F8.kp, b8⟩ ⟨_, _, o6, g6, F6.kp, b6⟩ C_MOST_ROWS
  have o13 : FnG P w K mg base CX0 1 _ d13 ["_law_script", "_law_k"] (spV K F_law_pot) := ok_law_pot F13 B hd
  have o14 : FnG P w K mg base CX0 1 _ d14 ["_law_pot_here", "_law_upto"] (spV K F_law_take) := ok_law_take F14 B 
  have o15 : FnG P w K mg base CX0 2 _ d15 ["_law_pot_here", "_law_some"] (spV K F_law_of) := ok_law_of F15 B ⟨_, _, o14, g14, F14.kp, b14⟩
  have o16 : FnG P w K mg base CX0 3 _ d16 ["_law_pot_here", "_law_many"] (spV K F_law_names) := ok_law_names F16 B ⟨_, _, o15, g15, F15.kp, b15⟩ ⟨_, _, o14, g14, F14.kp, b14⟩
  have o17 : FnG P w K mg base CX0 3 _ d17 ["_law_pot_here", "_law_names_here", "_law_most"] (spV K F_law_word) := ok_law_word F17 B ⟨_, _, o15, g15, F15.kp, b15⟩ ⟨_, _, o14, g14, F14.kp, b14⟩
  have o18 : FnG P w K mg base CX0 1 _ d18 ["_law_word_here", "_law_place"] (spV K F_law_winds) := ok_law_winds F18 B 
  have o19 : FnG P w K mg base CX0 2 _ d19 ["_law_word_here", "_law_spots", "_law_name"] (spV K F_law_behind) := ok_law_behind F19 B ⟨_, _, o18, g18, F18.kp, b18⟩
  have o20 : FnG P w K mg base CX0 3 _ d20 ["_law_word_here", "_law_names_here", "_law_most"] (spV K F_law_leveled) := ok_law_leveled F20 B ⟨_, _, o19, g19, F19.kp, b19⟩
  have e0 := c.fact 48 (f := .glo "WalkError") rfl
  have e1 := c.fact 49 (f := .glo "NoNumber") rfl
  have e2 := c.fact 50 (f := .free "super") rfl
  have e3 := c.fact 51 (f := .noat "NoNumber" "number") rfl
  have e4 := c.fact 52 (f := .exm "NoNumber" "WalkError" true) rfl
  have gc0 := He.glo_ok X G e0
  have gc1 := He.glo_ok X G e1
  obtain ⟨cw, ci, co, csu⟩ := c1.cls 0 (d := cNP) rfl
  obtain ⟨x1, x2⟩ := and2 c1.xb
  obtain ⟨xe, xx⟩ := excB_ok x1
  have Z : XF K mg := ⟨xe, xx, He.eqO_ok e3, of_decide_eq_true e4, of_decide_eq_true x2, gc0, gc1⟩
  have eNP : ClE P w K mg base 1 "NoNumber" ["number"] := clE_1 (d := cNP) (slf := "self") (x := "number") (fx := "number") (pl := plNP) cw ci co csu (He.eqO_ok e3) gc1 (He.free_ok X G e2) mfe top (nsc_by (by decide +kernel)) rfl rfl ⟨_, rfl, rfl⟩ (fun _ _ _ _ => rfl) (fun _ => rfl)
    (fun _ _ _ _ _ _ us hl => match us, hl with | [_, _], _ => rfl)
  have xwa := okX_wound_at (w := w) (base := base) F11 B ⟨_, _, o0, g0, F0.kp, b0⟩ ⟨_, _, o8, g8, F8.kp, b8⟩ ⟨_, _, o6, g6, F6.kp, b6⟩ eNP
  have o21 : FnG P w K mg base CX0 9 _ d21 ["_law_word_here", "_law_size", "_law_number"] (spV K F_law_is_none) := okF_law_is_none F21 B Z ⟨_, _, xwa, g11, F11.kp, b11⟩
  have o22 : FnG P w K mg base CX0 10 _ d22 ["_law_word_here", "_law_names_here"] (spV K F_law_right) := ok_law_right F22 B ⟨_, _, o20, g20, F20.kp, b20⟩ ⟨_, _, o21, g21, F21.kp, b21⟩ ⟨_, _, o11, g11, F11.kp, b11⟩ ⟨_, _, o12, g12, F12.kp, b12⟩ ⟨_, _, o9, g9, F9.kp, b9⟩ ⟨_, _, _, o7, g7, F7.kp, rv7, bd7⟩
  exact ok_law F23 B ⟨_, _, o22, g22, F22.kp, b22⟩ ⟨_, _, o17, g17, F17.kp, b17⟩ ⟨_, _, o16, g16, F16.kp, b16⟩ ⟨_, _, o14, g14, F14.kp, b14⟩ ⟨_, _, o13, g13, F13.kp, b13⟩
end
end K04
open PySem PySem.W PySem.Calls PyProof.Rows
theorem PySem.Challenge.cw_woundwalks_k04_whole_wound_rows_by_all_r_holds : PySem.Challenge.rw_woundwalks_k04_whole_wound_rows_by_all_r.Holds := by
  w_on; o_law
  refine HandSHeadRun.head_any (r := OpenLaw.row PySem.Challenge.rw_woundwalks_k04_whole_wound_rows_by_all_r) (q := view (OpenLaw.row PySem.Challenge.rw_woundwalks_k04_whole_wound_rows_by_all_r).prog [32]) (H := K04.hk) (ob := K04.ob) (M := 3000) (loose := K04.loose) (d := HandSHeadRun.topDef (OpenLaw.row PySem.Challenge.rw_woundwalks_k04_whole_wound_rows_by_all_r).prog 32) (kwd := []) K04.ob_eq
    (by kernel_rfl) (fun s => by kernel_rfl) K04.run (by kernel_rfl) (by kernel_rfl) (by kernel_rfl) (by rfl) (by first | assumption | decide +kernel) (by decide +kernel) ⟨rfl, rfl, rfl, rfl, rfl, by decide +kernel⟩ ?hw ?hc
  case hw => w_witness2
  case hc =>
    refine Gk.walkG (l := PySem.Challenge.rw_woundwalks_k04_whole_wound_rows_by_all_r) (n := 63) (k := 11) (x := "_law_script") (CX := L2.CX0) rfl (by decide) (by kernel_rfl) ⟨rfl, by decide, by decide⟩ ?F (fun _ _ _ _ z => z)
    intro w mg fa h Y G hmg0
    obtain ⟨K, KX, c⟩ := Y
    have hmg : mg ("law" : PySem.Str) = some (.ref fa) := by
      have e : (HandSHeadRun.topDef (OpenLaw.row PySem.Challenge.rw_woundwalks_k04_whole_wound_rows_by_all_r).prog 32).name = ("law" : PySem.Str) := by kernel_rfl
      rw [← e]
      exact hmg0
    obtain ⟨fd, hb, hF⟩ := K04.facts (P := (PySem.Challenge.rw_woundwalks_k04_whole_wound_rows_by_all_r).prog) (w := w) KX G hmg c (by rfl) (by kernel_rfl)
    exact ⟨K, fd, _, KX, hb, fun H a ns hl _ hS => Vm.law_sp (K04.law_ok hl) hS, hF⟩
