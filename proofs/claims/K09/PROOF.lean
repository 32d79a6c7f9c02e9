import PyProof.Rows.All
import Wide.All
import OpenK.AllK
import Wide.FinOn
import PyProof.EqAt
import PyProof.EqKinds
import PyProof.TupleCall
import KE.KStateDown
import Lean
import HandS.Base
import HandS.Call
import HandS.List
import HandS.Comp
import HandS.Ends
import HandS.Dict
import HandS.Iter
import HandS.More
import HandS.Words
import HandS.WordsList
import HandS.WordsDict
import HandS.Exc
import HandS.WordsExc
import HandS.Defaults
import HandS.Head0
import HandS.Head1
import HandS.Head2
import HandS.HeadEnd
import HandS.HeadHook1
import HandS.HeadHook2
import HandS.EndBits
import HandS.Wide
import HandS.IsInst
import HandS.Style
import HandS.Flow
import HandS.SortInts
import HandS.ExcIs
import HandS.Conv
import HandS.Text
import HandS.Walk
import HandS.MakeKwOnly
import HandS.Codes
import HandS.Zip0
import HandS.DictComp
import HandS.DictEq
import HandS.NoneIn
import HandS.Small
import KE.KDictPairs
import KE.GoesEnumKw
import KE.KDictCopyH
import HandS.ExcInit
import HandS.ExcField
import HandS.OwnEq
import HandS.TryOnly
import HandS.Deep
import KE.KEqNest
import PyProof.ExcBaseAll.LookupError
import PyProof.ExcBaseAll.OverflowError
import PyProof.ExcBaseAll.RuntimeError
import HandS.ExcInit
import HandS.ExcField
import PySem.Challenge.RW_editionrows_k09_whole_numbers
set_option Elab.async false
set_option linter.all false
set_option maxRecDepth 100000
set_option maxHeartbeats 4000000
/-! What every text of ours begins with: a called def in one word, the head's Hook with one more Bool, the end with the script's bits. -/
namespace Evl2
open PySem PySem.Spec PyProof.Rows L2
/-- a def of the text, with its promise, as a caller takes it -/
structure Callee (P : Program) (w : World) (K : PySem.W.Frag) (mg : Str → Option Value) (base : Heap) (CX : CXT) (k : Nat) (x : Str) (ps : List Str) (dvs : List V) (sp : Sp) : Prop where
  ex : ∃ (fd : FuncData) (ds : List Value), FnOk P w K mg base CX k (He.ga K x) fd ps sp ∧ Binds K fd ps ds ∧ Vals dvs ds
  kp : PySem.W.keepIn K (.ref (He.ga K x)) = true
  g : mg x = some (.ref (He.ga K x))
theorem Callee.up {P : Program} {w : World} {K : PySem.W.Frag} {mg : Str → Option Value} {base : Heap} {CX : CXT} {j k : Nat} {x : Str} {ps : List Str} {dvs : List V} {sp : Sp}
    (C : Callee P w K mg base CX j x ps dvs sp) (h : j ≤ k) : Callee P w K mg base CX k x ps dvs sp := by
  obtain ⟨fd, ds, F, b, v⟩ := C.ex
  exact ⟨⟨fd, ds, F.mono h, b, v⟩, C.kp, C.g⟩
/-- f(e, ..) -/
theorem pcall {X : Cx} {k : Nat} {x : Str} {ps : List Str} {dvs : List V} {sp : Sp} {p pos : Pos} {e : Expr} {es : List Expr} {t : TA} (C : Callee X.prog X.w X.K X.mg X.base CX0 k x ps dvs sp) (hr : Room k X.A) (ha : PA X (e :: es) t) (hg : Gl X x := by rfl)
    (hdb : (x == ("__debug__" : Str)) = false := by decide) (he : starEach (e :: es) X.env = (false, eval e X.env) :: starEach es X.env := by rfl) (hpl : (backTo pos (starEach es X.env)).any (·.1) = false := by rfl) :
    PE X (.Call (.Name x p) (e :: es) [] pos) (tCall sp dvs E0 t) := by
  obtain ⟨fd, ds, F, b, v⟩ := C.ex
  exact pe_call F hr hg C.g C.kp b v pass0 ha hdb he hpl
/-- f() -/
theorem pcall0 {X : Cx} {k : Nat} {x : Str} {ps : List Str} {dvs : List V} {sp : Sp} {p pos : Pos} (C : Callee X.prog X.w X.K X.mg X.base CX0 k x ps dvs sp) (hr : Room k X.A) (hg : Gl X x := by rfl)
    (hdb : (x == ("__debug__" : Str)) = false := by decide) : PE X (.Call (.Name x p) [] [] pos) (tCall sp dvs E0 tNil) := by
  obtain ⟨fd, ds, F, b, v⟩ := C.ex
  exact pe_call0 F hr hg C.g C.kp b v pass0 hdb
/-! ### the head's Hook: the library's facts and one more Bool -/
abbrev AlP : Type := He.AlD × Bool
/-- addresses not yet seen, told by the bits of a number -/
def newA : List Addr → Nat → List Addr → (Nat → List Addr → List Addr) → List Addr
  | [], s, acc, k => k s acc
  | a :: r, s, acc, k => HandSHeadRun.frNat a fun a => match Nat.beq (Nat.land (Nat.shiftRight s a) 1) 1 with
    | true => newA r s acc k
    | false => HandSHeadRun.frNat (Nat.lor s (Nat.shiftLeft 1 a)) fun s => newA r s (a :: acc) k
def refsA (g : Addr → Option Obj) : List Addr → List Addr
  | [] => []
  | a :: r => (match g a with
    | some o => He.refsD o
    | none => []) ++ refsA g r
/-- the addresses reached from the globals in so many steps, each object looked at once -/
def levA (g : Addr → Option Obj) : Nat → Nat → List Addr → List Addr
  | 0, _, fr => fr
  | n + 1, s, fr => newA (refsA g fr) s [] fun s fr' => fr ++ levA g n s fr'
def asW (g : Addr → Option Obj) (n : Nat) : List Addr := levA g n (Nat.shiftLeft 1 mainGlobals) [mainGlobals]
def mapV : List He.DefD → List He.FnW
  | [] => []
  | d :: r => d.val :: mapV r
def obsP (n : Nat) (fa : List He.Fa) (fn : List He.DefD) (ex : PySem.W.Frag → Bool) (g : Addr → Option Obj) : AlP := (He.obsD fa fn (He.frG g (asW g n)), ex (He.frG g (asW g n)))
def valP (fn : List He.DefD) : AlP := ((true, mapV fn), true)
theorem mapV_eq : ∀ fn : List He.DefD, mapV fn = fn.map He.DefD.val
  | [] => rfl
  | d :: r => congrArg (d.val :: ·) (mapV_eq r)
theorem valP_eq (fn : List He.DefD) : valP fn = (He.valD fn, true) := by
  unfold valP He.valD
  rw [mapV_eq]
def hookP (n : Nat) (fa : List He.Fa) (fn : List He.DefD) (ex : PySem.W.Frag → Bool) : PySem.W.Hook where
  α := AlP
  obs := fun s => obsP n fa fn ex s.heap.get?
  val := fun _ => valP fn
  says := fun _ h => ∃ K : PySem.W.Frag, K.In h ∧ (He.SaysD fa fn K ∧ ex K = true)
  of := fun _ _ e => ⟨_, He.frG_in, (congrArg (fun z : AlP => z.1) e).trans (congrArg (fun z : AlP => z.1) (valP_eq fn)), congrArg (fun z : AlP => z.2) e⟩
  keeps := fun _ _ _ ⟨K, hK, c⟩ k => ⟨K, PySem.W.Frag.In.keeps hK k, c⟩
theorem obsP_eq {n : Nat} {fa : List He.Fa} {fn : List He.DefD} {ex : PySem.W.Frag → Bool} {g : Addr → Option Obj} {s : Shared} (h : ∀ a, g a = s.heap.get? a) : obsP n fa fn ex g = (hookP n fa fn ex).obs s := by
  have e : g = s.heap.get? := funext h
  rw [e] <;> rfl
/-- what a law's end wants of its promise at a written part K -/
def LawOk (l : PySem.W.OpenLaw) (w : World) (mg : Str → Option Value) (CX : CXT) (k n : Nat) (x : Str) (fa : Addr) (K : PySem.W.Frag) : Prop :=
  ∃ (fd : FuncData) (sp : Sp), (∀ (s : Shared) (u : Value), BindsTo s fd ⟨[u], []⟩ [(x, u)]) ∧
    (∀ (H : Hp) (a : Addr) (ns : List Int), ns.length ≤ n → (∀ z ∈ ns, Builtin.Int.intBits z ≤ 1048576) → Only H → SqL K H a (ns.map V.int) → sp [.ref a] H (fun v _ => v = .bl true) fun _ _ _ => False) ∧
    ∀ base : Heap, K.In base → base.Ns mainGlobals mg → FnOk l.prog w K mg base CX k fa fd [x] sp
theorem walk_bits {l : PySem.W.OpenLaw} {n k : Nat} {q : Program} {loose : List Str} {XP : (Str → Option Value) → Heap → Prop} {YP : World → Heap → Prop} {d : DefRec} {CX : CXT} {x : Str} (hn : l.most = some n) (hn2 : n ≤ sizeLine) (hdf : d.params.defaults = []) (hr : Room k callerA)
    (F : ∀ (w : World) (mg : Str → Option Value) (fa : Addr) (h : Heap), YP w h → h.Ns mainGlobals mg → mg d.name = some (.ref fa) → ∃ K : PySem.W.Frag, K.In h ∧ LawOk l w mg CX k n x fa K)
    (hCX : ∀ (H : Hp) (s : Shared) (e : Value) (s' : Shared), CX [] H s (fun _ _ _ => False) e s' → False) : PySem.W.WalkO q loose XP YP l.row.toRowW d [] (fun f vs => PySem.call f vs) := by
  refine Att.attach_callB hn hdf fun w s₀ s₁ mg mb fa o pm cd doc a vs ns G Y ho hd hcd hmg hobj hints hlen hbits hg => ?_
  obtain ⟨K, KX, fd, sp, hb, hsp, hF⟩ := F w mg fa _ Y G.T.g hmg
  exact law_call KX G.T.g G.T.b G.T.builtins G.T.nolimit hg hobj hints (Nat.le_trans hlen hn2) hr hF hb (fun H hO hS => hsp H a ns hlen hbits hO hS) fun H e s' => hCX H s₁ e s'
end Evl2
/-! ### more words of ours -/
namespace Evl2
open PySem PySem.Spec PyProof.Rows L2
section
variable {P : Program} {w : World} {K : PySem.W.Frag} {mg : Str → Option Value} {base : Heap}
/-- a method without defaults -/
theorem mkMeth {m q : Str} {params : Arguments} {body : List Stmt} {scope : Scope} {N ps : List Str} {k : Nat} {sp : Sp} {f : Addr} (hF : ∃ fd, FunD K m q params body scope [] [] f fd) (S : FnScope N ps scope)
    (hb : ∀ (kV doc pm : Value) (an : Option Addr) (cdv ct : Value) (us : List Value), us.length = ps.length → bindArgs (PySem.W.fnOf m q params body scope .none kV doc pm an cdv ct) ⟨us, []⟩ = pure (ps.zip us))
    (len : ∀ vs H Q E, sp vs H Q E → vs.length = ps.length)
    (hbody : ∀ (cdv : Value) (A : Around) (outer : List Env) (s : Shared) (H : Hp) (vs : List V) (Q : VK) (E : XK), Room k (A.deeper (envOfC q scope s.heap.objs.size f cdv)) → sp vs H Q E →
      ∃ t, PSs (cxOf CX0 P w K mg base N q scope f cdv A outer s H E).nox body t ∧ t { nx := fun _ H' => Q .non H', rt := Q } (start N vs) H) : ∃ fd, FnOk P w K mg base CX0 (k + 1) f fd ps sp ∧ Binds K fd ps [] := by
  obtain ⟨fd, F⟩ := hF
  refine ⟨fd, F.ok S len fun cdv A outer s H vs Q E hr h => ?_, F.bindsN hb⟩
  obtain ⟨t, h1, h2⟩ := hbody cdv A outer s H vs Q E hr h
  exact ⟨t, h1.nox, h2⟩
/-- a def without defaults, as a callee -/
theorem mkCallee {x y : Str} {params : Arguments} {body : List Stmt} {scope : Scope} {N ps : List Str} {k : Nat} {sp : Sp} (hF : ∃ fd, FunD K y y params body scope [] [] (He.ga K x) fd) (hg : mg x = some (.ref (He.ga K x))) (S : FnScope N ps scope)
    (hb : ∀ (kV doc pm : Value) (an : Option Addr) (cdv ct : Value) (us : List Value), us.length = ps.length → bindArgs (PySem.W.fnOf y y params body scope .none kV doc pm an cdv ct) ⟨us, []⟩ = pure (ps.zip us))
    (len : ∀ vs H Q E, sp vs H Q E → vs.length = ps.length)
    (hbody : ∀ (cdv : Value) (A : Around) (outer : List Env) (s : Shared) (H : Hp) (vs : List V) (Q : VK) (E : XK), Room k (A.deeper (envOfC y scope s.heap.objs.size (He.ga K x) cdv)) → sp vs H Q E →
      ∃ t, PSs (cxOf CX0 P w K mg base N y scope (He.ga K x) cdv A outer s H E).nox body t ∧ t { nx := fun _ H' => Q .non H', rt := Q } (start N vs) H) : Callee P w K mg base CX0 (k + 1) x ps [] sp := by
  obtain ⟨fd, F⟩ := hF
  refine ⟨⟨fd, [], F.ok S len fun cdv A outer s H vs Q E hr h => ?_, F.bindsN hb, .nil⟩, F.kp, hg⟩
  obtain ⟨t, h1, h2⟩ := hbody cdv A outer s H vs Q E hr h
  exact ⟨t, h1.nox, h2⟩
end
theorem s_whenX {t : TT} {tu : TS} {D : Ends} {σ : L2.St} {H : Hp} (P : Hp → Prop) (test : ∀ R : Bool → Hp → Prop, (∀ b H1, P H1 → R b H1) → t σ H R) (body : ∀ H1, P H1 → tu D σ H1) (skip : ∀ H1, P H1 → D.nx σ H1) : tIfS t tu tNext D σ H :=
  test _ fun b H1 p => by
    cases b
    · exact iteF (skip H1 p)
    · exact iteT (body H1 p)
theorem nxt {D : Ends} {σ : L2.St} {H : Hp} (h : D.nx σ H) : tNext D σ H := h
theorem iteD {c A B : Prop} [Decidable c] (hc : ¬ c) (h : B) : if decide c = true then A else B := by
  rw [decide_eq_false hc]
  exact iteF h
theorem iteDT {c A B : Prop} [Decidable c] (hc : c) (h : A) : if decide c = true then A else B := by
  rw [decide_eq_true hc]
  exact iteT h
theorem iteNF {c A B : Prop} [Decidable c] (hc : ¬ c) (h : A) : if (!decide c) = true then A else B := by
  rw [decide_eq_false hc]
  exact iteT h
theorem nes {a b : Str} (h : a ≠ b) : ¬ V.str a = V.str b := fun z => h (V.str.inj z)
theorem nei {a b : Int} (h : a ≠ b) : ¬ V.int a = V.int b := fun z => h (V.int.inj z)
/-- an own error class that is kept -/
def excB (K : PySem.W.Frag) (x : Str) : Bool := PySem.W.keepIn K (.ref (He.ga K x))
/-- what isinstance asks of an own class -/
def insB (K : PySem.W.Frag) (x : Str) : Bool := decide (PySem.W.findIn K (.ref (He.ga K x)) "__class__" = some (some (.builtin "object.__class__"))) && (decide (PySem.W.specialIn K (.builtin "object.__class__") "__get__" = some (some (.builtin "getset_descriptor.__get__"))) &&
  (decide (PySem.W.takesIn K (.builtin "object.__class__") = some true) && decide (PySem.W.mroIn K (He.ga K x) (.type "object") = some true)))
theorem insC_of {K : PySem.W.Frag} {x : Str} (h : insB K x = true) (c : Cls K (He.ga K x)) : C8.InsC K (He.ga K x) := by
  unfold insB at h
  rw [Bool.and_eq_true, Bool.and_eq_true, Bool.and_eq_true] at h
  exact ⟨c, of_decide_eq_true h.1, of_decide_eq_true h.2.1, of_decide_eq_true h.2.2.1, of_decide_eq_true h.2.2.2, if_pos (beq_self_eq_true _)⟩
/-- the own class x is none of the builtin ones -/
def noTs : List String := ["NoneType", "bool", "int", "str", "list", "tuple", "dict"]
def ninB (K : PySem.W.Frag) (x : Str) : Bool := noTs.all fun t => decide (PySem.W.kitOne K (.type t) (.ref (He.ga K x)) = some false) && PySem.W.notFirst K (He.ga K x) (.type t)
theorem ninB_kit {K : PySem.W.Frag} {x : Str} (h : ninB K x = true) {t : String} (ht : t ∈ noTs) : PySem.W.kitOne K (.type t) (.ref (He.ga K x)) = some false := of_decide_eq_true (Bool.and_eq_true_iff.mp (List.all_eq_true.mp h t ht)).1
theorem ninB_first {K : PySem.W.Frag} {x : Str} (h : ninB K x = true) {t : String} (ht : t ∈ noTs) : PySem.W.notFirst K (He.ga K x) (.type t) = true := (Bool.and_eq_true_iff.mp (List.all_eq_true.mp h t ht)).2
/-- what != of an own class asks -/
def neB (K : PySem.W.Frag) (x : Str) : Bool := decide (PySem.W.findIn K (.ref (He.ga K x)) "__ne__" = some (some (.builtin "object.__ne__"))) && decide (PySem.W.mroIn K (He.ga K x) (.type "object") = some true)
structure NeC (K : PySem.W.Frag) (C : Addr) : Prop where
  at_ : PySem.W.findIn K (.ref C) "__ne__" = some (some (.builtin "object.__ne__"))
  ob : PySem.W.mroIn K C (.type "object") = some true
theorem neC_of {K : PySem.W.Frag} {x : Str} (h : neB K x = true) : NeC K (He.ga K x) := by
  unfold neB at h
  rw [Bool.and_eq_true] at h
  exact ⟨of_decide_eq_true h.1, of_decide_eq_true h.2⟩
/-- an own error class over ValueError with an own __init__ that keeps its argument under f -/
def oexB (K : PySem.W.Frag) (x f : Str) : Bool := (match K.lookup (He.ga K x) with
  | some ⟨.type "type", _, .cls cd, sl⟩ => (match cd.mro, sl.toList with
    | .ref C' :: bm, [_, _, _, _, some (.builtin n), _] => C' == He.ga K x && (n == "ValueError.__new__" && (!cd.hasDel && (PySem.HandSPX.refsVE bm && cd.hasDict)))
    | _, _ => false)
  | _ => false) && (decide (PySem.W.findIn K (.ref (He.ga K x)) "__setattr__" = some (some (.builtin "object.__setattr__"))) && (decide (PySem.W.subIn K (.ref (He.ga K x)) (.type "BaseException") = some true) && (decide (PySem.W.typeIn K (.ref (He.ga K x)) = some (.type "type")) &&
    (PySem.W.keepIn K (.ref (He.ga K x)) && (xfB K (He.ga K x) && (decide (PySem.W.findIn K (.ref (He.ga K x)) "__init__" = some (some (.ref (He.ma K (He.ga K x) "__init__")))) && (decide (PySem.W.typeIn K (.ref (He.ma K (He.ga K x) "__init__")) = some (.type "function")) &&
    (decide (PySem.W.findIn K (.ref (He.ga K x)) f = some none) && decide (PySem.W.exmOne K (.ref (He.ga K x)) (.ref (He.ga K x)) = some true)))))))))
structure OexF (K : PySem.W.Frag) (x f : Str) : Prop where
  o : OexC K (He.ga K x)
  xf : XfC K (He.ga K x)
  i : PySem.W.findIn K (.ref (He.ga K x)) "__init__" = some (some (.ref (He.ma K (He.ga K x) "__init__")))
  ti : PySem.W.typeIn K (.ref (He.ma K (He.ga K x) "__init__")) = some (.type "function")
  no : PySem.W.findIn K (.ref (He.ga K x)) f = some none
  me : PySem.W.exmOne K (.ref (He.ga K x)) (.ref (He.ga K x)) = some true
theorem oexB_ok {K : PySem.W.Frag} {x f : Str} (h : oexB K x f = true) : OexF K x f := by
  unfold oexB at h
  simp only [Bool.and_eq_true, decide_eq_true_eq] at h
  obtain ⟨h0, h1, h2, h3, h4, h5, h6, h7, h8, h9⟩ := h
  refine ⟨⟨?_, h1, h2, h3, h4⟩, xfB_ok h5, h6, h7, h8, h9⟩
  split at h0
  · rename_i dd cd sl ho
    split at h0
    · rename_i C' bm k0 k1 k2 k3 n k5 hm hs
      simp only [Bool.and_eq_true, beq_iff_eq, Bool.not_eq_true'] at h0
      obtain ⟨hc, hn, hdel, hve, hd⟩ := h0
      obtain ⟨nm, bs, mro, ns, qn, hd', sn, sub, ab, col, del⟩ := cd
      dsimp only at hm hdel hd
      subst hm hdel hd hc hn
      have hsl : sl = #[k0, k1, k2, k3, some (.builtin "ValueError.__new__"), k5] := by
        obtain ⟨l⟩ := sl
        simp only at hs
        rw [hs]
      subst hsl
      exact ⟨_, _, _, _, _, _, _, _, _, _, _, _, _, _, _, ho, hve⟩
    · cases h0
  · cases h0
/-- the empty tuple of the written part -/
def emptyTupB (K : PySem.W.Frag) (a : Addr) : Bool := match K.lookup a with
  | some ⟨.type c, _, .seq its _, _⟩ => decide (c = "tuple") && decide (its.size = 0)
  | _ => false
/-- a pool of draws: a list of two ints -/
def Pl (H : Hp) (a : Addr) : Prop := ∃ z0 z1 : Int, H a = some (.lst [.int z0, .int z1])
/-- all but what stands at a is as it was, at a stands a pool -/
def PlEx (a : Addr) (H H' : Hp) : Prop := (∀ b o, b ≠ a → H b = some o → H' b = some o) ∧ Pl H' a
theorem mod_lo {i j : Int} (h : 0 < j) : 0 ≤ i.fmod j := Int.fmod_nonneg_of_pos i h
theorem mod_hi {i j : Int} (h : 0 < j) : i.fmod j < j := Int.fmod_lt_of_pos i h
/-- values of built-in types: is it an int (no bool)? -/
def isI : V → Bool
  | .int _ => true
  | _ => false
theorem kit_whole {K : PySem.W.Frag} {H : Hp} {x : V} {t : String} (ty : TyX K H x (.type t)) : ∃ a b : Bool, kitB t "int" = some a ∧ kitB t "bool" = some b ∧ (a && !b) = isI x := by
  cases ty with
  | base h => cases h <;> first | exact ⟨true, false, by decide +kernel, by decide +kernel, rfl⟩ | exact ⟨true, true, by decide +kernel, by decide +kernel, rfl⟩ | exact ⟨false, false, by decide +kernel, by decide +kernel, rfl⟩
  | _ => exact ⟨false, false, by decide +kernel, by decide +kernel, rfl⟩
/-! ### heaps -/
theorem same_new {H : Hp} {p : Addr} {o : HO} (h : H p = none) : Same H (upd H p o) := fun a u e => by
  rw [upd_ne (ne_of_none e h)]
  exact e
theorem same_mut {H H' : Hp} {p : Addr} {o : HO} (e : Same H H') (h : H p = none) : Same H (upd H' p o) := fun a u ha => by
  rw [upd_ne (ne_of_none ha h)]
  exact e a u ha
theorem same_tup {K : PySem.W.Frag} {H H' : Hp} {a : Addr} {xs : List V} (e : Same H H') (h : SqT K H a xs) : SqT K H' a xs := by
  rcases h with (h | ⟨o, h⟩) | h
  · exact .inl (.inl (e _ _ h))
  · exact .inl (.inr ⟨o, e _ _ h⟩)
  · exact .inr h
theorem sqL_of {K : PySem.W.Frag} {H : Hp} {a : Addr} {xs : List V} (h : H a = some (.lst xs)) : SqL K H a xs := .inl (.inl h)
theorem sqT_of {K : PySem.W.Frag} {H : Hp} {a : Addr} {xs : List V} (h : H a = some (.tup xs)) : SqT K H a xs := .inl (.inl h)
/-! ### comprehensions that change nothing -/
section
variable {K : PySem.W.Frag} {σ : L2.St} {H : Hp} {tl te : TE} {ta : TA} {tt : TT} {j : Nat} {vs : List Nat} {Q : VK} {xs : List V}
theorem lc_one {f : V → Bool} {v : V → V} {H' : Hp} {D : Addr} {zs : List V} {x : V} (hD : H D = none) (hz : zs.length ≤ 100000) {σ2 : L2.St} (p : Same H H' ∧ H' D = some (.lst zs))
    (ht : ∀ R : Bool → Hp → Prop, (∀ H2, Same H' H2 → R (f x) H2) → tt σ2 H' R) (he : f x = true → ∀ H', Same H H' → ∀ R : VK, (∀ H2, Same H' H2 → R (v x) H2) → te σ2 H' R) {N : Hp → Prop}
    (hN : ∀ H', Same H H' → H' D = some (.lst (zs ++ ([x].filter f).map v)) → N H') :
    tt σ2 H' fun b H3 => if b = true then te σ2 H3 fun y H4 => ∃ acc, H4 D = some (.lst acc) ∧ acc.length < sizeLine ∧ N (upd H4 D (.lst (acc ++ [y]))) else N H3 := by
  refine ht _ fun H3 e3 => ?_
  cases hf : f x with
  | true =>
    refine iteT (he hf H3 (p.1.trans e3) _ fun H4 e4 => ⟨zs, e4 D _ (e3 D _ p.2), Nat.lt_of_le_of_lt hz (by decide), hN _ (same_mut ((p.1.trans e3).trans e4) hD) ?_⟩)
    rw [upd_same, List.filter_cons, if_pos hf]
    rfl
  | false =>
    refine iteF (hN _ (p.1.trans e3) ?_)
    rw [List.filter_cons, if_neg (by rw [hf]; decide)]
    show H3 D = some (.lst (zs ++ []))
    rw [List.append_nil]
    exact e3 D _ p.2
theorem take_one (f : V → Bool) (v : V → V) {i : Nat} {x : V} (h : xs[i]? = some x) : ((xs.take i).filter f).map v ++ ([x].filter f).map v = ((xs.take (i + 1)).filter f).map v := by
  rw [List.take_add_one, h, List.filter_append, List.map_append]
  rfl
theorem take_len (f : V → Bool) (v : V → V) (i : Nat) : (((xs.take i).filter f).map v).length ≤ xs.length := by
  rw [List.length_map]
  refine Nat.le_trans (List.length_filter_le _ _) ?_
  rw [List.length_take]
  exact Nat.min_le_right _ _
theorem tlc_L (f : V → Bool) (v : V → V) (htl : ∀ R : VK, (∀ a H1, Same H H1 → SqL K H1 a xs → R (.ref a) H1) → tl σ H R) (hz : xs.length ≤ 100000) (hw : ∀ x, wipe ((wipe σ vs).set j (some x)) vs = wipe σ vs)
    (ht : ∀ x ∈ xs, ∀ H', Same H H' → ∀ R : Bool → Hp → Prop, (∀ H2, Same H' H2 → R (f x) H2) → tt ((wipe σ vs).set j (some x)) H' R)
    (he : ∀ x ∈ xs, f x = true → ∀ H', Same H H' → ∀ R : VK, (∀ H2, Same H' H2 → R (v x) H2) → te ((wipe σ vs).set j (some x)) H' R)
    (k : ∀ D H', H D = none → Same H H' → H' D = some (.lst ((xs.filter f).map v)) → Q (.ref D) H') : tLc (iList K tl) (gName j) tt te vs σ H Q := by
  refine htl _ fun a H1 e1 hs => ⟨a, rfl, ⟨xs, hs⟩, fun D hD => ?_⟩
  have key : ∀ i x H', xs[i]? = some x → (Same H1 H' ∧ H' D = some (.lst (((xs.take i).filter f).map v))) → gName j x (wipe σ vs) H' fun σ2 H2 => wipe σ2 vs = wipe σ vs ∧ tt σ2 H2 fun b H3 =>
      if b = true then te σ2 H3 fun y H4 => ∃ acc, H4 D = some (.lst acc) ∧ acc.length < sizeLine ∧ (Same H1 (upd H4 D (.lst (acc ++ [y]))) ∧ (upd H4 D (.lst (acc ++ [y]))) D = some (.lst (((xs.take (i + 1)).filter f).map v)))
      else (Same H1 H3 ∧ H3 D = some (.lst (((xs.take (i + 1)).filter f).map v))) := fun i x H' hi p =>
    ⟨hw x, lc_one (N := fun H' => Same H1 H' ∧ H' D = some (.lst (((xs.take (i + 1)).filter f).map v))) (f := f) (v := v) (x := x) hD (Nat.le_trans (take_len f v i) hz) p (ht x (List.mem_of_getElem? hi) H' (e1.trans p.1))
      (fun hf H2 e2 => he x (List.mem_of_getElem? hi) hf H2 (e1.trans e2)) fun H2 s2 d2 => ⟨s2, by rw [d2, take_one f v hi]⟩⟩
  refine lc_list (xs := xs) (fun i H' => Same H1 H' ∧ H' D = some (.lst (((xs.take i).filter f).map v))) ⟨same_new hD, ?_⟩ (fun i H' _ p => p.1.seq hs) key fun H' p => k D H' (e1.free hD) (e1.trans p.1) ?_
  · exact upd_same
  · have q := p.2
    rw [List.take_length] at q
    exact q
theorem tlc_T (f : V → Bool) (v : V → V) (htl : ∀ R : VK, (∀ a H1, Same H H1 → SqT K H1 a xs → R (.ref a) H1) → tl σ H R) (hz : xs.length ≤ 100000) (hw : ∀ x, wipe ((wipe σ vs).set j (some x)) vs = wipe σ vs)
    (ht : ∀ x ∈ xs, ∀ H', Same H H' → ∀ R : Bool → Hp → Prop, (∀ H2, Same H' H2 → R (f x) H2) → tt ((wipe σ vs).set j (some x)) H' R)
    (he : ∀ x ∈ xs, f x = true → ∀ H', Same H H' → ∀ R : VK, (∀ H2, Same H' H2 → R (v x) H2) → te ((wipe σ vs).set j (some x)) H' R)
    (k : ∀ D H', H D = none → Same H H' → H' D = some (.lst ((xs.filter f).map v)) → Q (.ref D) H') : tLc (iTup K tl) (gName j) tt te vs σ H Q := by
  refine htl _ fun a H1 e1 hs => ⟨a, rfl, ⟨xs, hs⟩, fun D hD => ?_⟩
  have key : ∀ i x H', xs[i]? = some x → (Same H1 H' ∧ H' D = some (.lst (((xs.take i).filter f).map v))) → gName j x (wipe σ vs) H' fun σ2 H2 => wipe σ2 vs = wipe σ vs ∧ tt σ2 H2 fun b H3 =>
      if b = true then te σ2 H3 fun y H4 => ∃ acc, H4 D = some (.lst acc) ∧ acc.length < sizeLine ∧ (Same H1 (upd H4 D (.lst (acc ++ [y]))) ∧ (upd H4 D (.lst (acc ++ [y]))) D = some (.lst (((xs.take (i + 1)).filter f).map v)))
      else (Same H1 H3 ∧ H3 D = some (.lst (((xs.take (i + 1)).filter f).map v))) := fun i x H' hi p =>
    ⟨hw x, lc_one (N := fun H' => Same H1 H' ∧ H' D = some (.lst (((xs.take (i + 1)).filter f).map v))) (f := f) (v := v) (x := x) hD (Nat.le_trans (take_len f v i) hz) p (ht x (List.mem_of_getElem? hi) H' (e1.trans p.1))
      (fun hf H2 e2 => he x (List.mem_of_getElem? hi) hf H2 (e1.trans e2)) fun H2 s2 d2 => ⟨s2, by rw [d2, take_one f v hi]⟩⟩
  refine lc_tup (xs := xs) (fun i H' => Same H1 H' ∧ H' D = some (.lst (((xs.take i).filter f).map v))) ⟨same_new hD, ?_⟩ (fun i H' _ p => same_tup p.1 hs) key fun H' p => k D H' (e1.free hD) (e1.trans p.1) ?_
  · exact upd_same
  · have q := p.2
    rw [List.take_length] at q
    exact q
theorem rg_at {n i : Nat} (h : i < n) : ((List.range n).map fun m : Nat => V.int (m : Int))[i]? = some (V.int (i : Int)) := by
  rw [List.getElem?_map, List.getElem?_range h]
  rfl
theorem tlc_R (f : V → Bool) (v : V → V) (n : Int) (hta : ∀ R : List V → Hp → Prop, (∀ H1, Same H H1 → R [.int n] H1) → ta σ H R) (hz : n ≤ 100000) (hw : ∀ x, wipe ((wipe σ vs).set j (some x)) vs = wipe σ vs)
    (ht : ∀ m : Nat, (m : Int) < n → ∀ H', Same H H' → ∀ R : Bool → Hp → Prop, (∀ H2, Same H' H2 → R (f (.int m)) H2) → tt ((wipe σ vs).set j (some (.int m))) H' R)
    (he : ∀ m : Nat, (m : Int) < n → f (.int m) = true → ∀ H', Same H H' → ∀ R : VK, (∀ H2, Same H' H2 → R (v (.int m)) H2) → te ((wipe σ vs).set j (some (.int m))) H' R) (hlo : -100000 ≤ n)
    (k : ∀ D H', H D = none → Same H H' → H' D = some (.lst ((((List.range n.toNat).map fun m : Nat => V.int (m : Int)).filter f).map v)) → Q (.ref D) H') : tLc (iRng1 ta) (gName j) tt te vs σ H Q := by
  refine hta _ fun H1 e1 => ⟨n, rfl, by omega, by omega, fun D hD => ?_⟩
  have key : ∀ i H', i < n.toNat → (Same H1 H' ∧ H' D = some (.lst (((((List.range n.toNat).map fun m : Nat => V.int (m : Int)).take i).filter f).map v))) → gName j (.int ((0 : Int) + (i : Int))) (wipe σ vs) H' fun σ2 H2 => wipe σ2 vs = wipe σ vs ∧ tt σ2 H2 fun b H3 =>
      if b = true then te σ2 H3 fun y H4 => ∃ acc, H4 D = some (.lst acc) ∧ acc.length < sizeLine ∧ (Same H1 (upd H4 D (.lst (acc ++ [y]))) ∧ (upd H4 D (.lst (acc ++ [y]))) D = some (.lst (((((List.range n.toNat).map fun m : Nat => V.int (m : Int)).take (i + 1)).filter f).map v)))
      else (Same H1 H3 ∧ H3 D = some (.lst (((((List.range n.toNat).map fun m : Nat => V.int (m : Int)).take (i + 1)).filter f).map v))) := fun i H' hi p => by
    have e0 : (0 : Int) + (i : Int) = (i : Int) := Int.zero_add _
    rw [e0]
    have hin : (i : Int) < n := by omega
    have hl := take_len (xs := (List.range n.toNat).map fun m : Nat => V.int (m : Int)) f v i
    have hl2 : ((List.range n.toNat).map fun m : Nat => V.int (m : Int)).length = n.toNat := by simp
    exact ⟨hw _, lc_one (N := fun H' => Same H1 H' ∧ H' D = some (.lst (((((List.range n.toNat).map fun m : Nat => V.int (m : Int)).take (i + 1)).filter f).map v))) (f := f) (v := v) (x := .int i) hD (by omega) p (ht i hin H' (e1.trans p.1))
      (fun hf H2 e2 => he i hin hf H2 (e1.trans e2)) fun H2 s2 d2 => ⟨s2, by rw [d2, take_one f v (rg_at hi)]⟩⟩
  refine lc_range (lo := 0) (n := n.toNat) (fun i H' => Same H1 H' ∧ H' D = some (.lst (((((List.range n.toNat).map fun m : Nat => V.int (m : Int)).take i).filter f).map v))) ⟨same_new hD, ?_⟩ key fun H' p => k D H' (e1.free hD) (e1.trans p.1) ?_
  · exact upd_same
  · have q := p.2
    rw [List.take_of_length_le (by simp)] at q
    exact q
end
section
variable {K : PySem.W.Frag} {σ : L2.St} {H : Hp} {te ta : TE} {tt : TT} {U : TS} {D : Ends}
/-- if t: l.append(e), told by the truth of t -/
theorem q_ifapp {l : Addr} {zs : List V} {v : V} (b : Bool) (ht : ∀ R : Bool → Hp → Prop, (∀ H2, Same H H2 → R b H2) → tt σ H R) (hl : H l = some (.lst zs)) (hz : zs.length ≤ 100000) (ha : ∀ (H : Hp) (R : VK), R (.ref l) H → ta σ H R) (he : ∀ (H : Hp) (R : VK), R v H → te σ H R)
    (k : ∀ H', (∀ c o, c ≠ l → H c = some o → H' c = some o) → H' l = some (.lst (zs ++ if b = true then [v] else [])) → U D σ H') : tSeq (tIfS tt (tDrop (tBM K "list" rAppend ta (tCons te tNil))) tNext) U D σ H := by
  refine ht _ fun H2 s2 => ?_
  cases b with
  | true =>
    refine iteT (ha H2 _ ⟨.inl ⟨rfl, _, sqL_of (s2 _ _ hl)⟩, he _ _ ⟨l, _, _, rfl, rfl, s2 _ _ hl, Nat.lt_of_le_of_lt hz (by decide), k _ (fun c o hc e => ?_) upd_same⟩⟩)
    rw [upd_ne hc]
    exact s2 _ _ e
  | false =>
    refine iteF (k H2 (fun c o _ e => s2 _ _ e) ?_)
    show H2 l = some (.lst (zs ++ []))
    rw [List.append_nil]
    exact s2 _ _ hl
end
section
variable {σ : L2.St} {H : Hp} {te : TE} {U : TS} {D : Ends}
/-- x = e, then the rest -/
theorem q_asgX {i : Nat} (h : te σ H fun x H1 => U D (σ.set i (some x)) H1) : tSeq (tAsg te (gName i)) U D σ H := h
/-- x = e, e some int -/
theorem q_asgI {i : Nat} (h : ∀ R : VK, (∀ z : Int, R (.int z) H) → te σ H R) (k : ∀ z : Int, U D (σ.set i (some (.int z))) H) : tSeq (tAsg te (gName i)) U D σ H := h _ k
end
section
variable {K : PySem.W.Frag} {σ : L2.St} {H : Hp} {X : TE} {r : List V → Hp → VK → Prop} {g : TG} {tb U : TS} {D : Ends}
/-- a test by a call of one argument, a for over such a call: the argument first -/
theorem pl_b1 {R : Bool → Hp → Prop} (h : X σ H fun v H1 => r [v] H1 fun x H2 => ∃ c, x = .bl c ∧ R c H2) : tB (tCB r (tCons X tNil)) σ H R := h
theorem pl_r1 {r : List V → Hp → VK → Prop} (h : X σ H fun v H1 => r [v] H1 D.rt) : tRet (tCB r (tCons X tNil)) D σ H := h
theorem pl_forL1 (h : X σ H fun v H1 => r [v] H1 fun x H2 => ∃ a, x = .ref a ∧ (∃ xs, SqL K H2 a xs) ∧ tFor (fun _ H R => R (Itl K a) H) g tb { D with nx := U D } σ H2) : tSeq (tFor (iList K (tCB r (tCons X tNil))) g tb) U D σ H := h
end
/-! ### == of lists of flat values -/
def okV : V → Bool
  | .non => true
  | .bl _ => true
  | .int _ => true
  | .str x => PyData.canLay0 (.str x)
  | _ => false
def dtV : V → PyData
  | .bl b => .bool b
  | .int i => .int i
  | .str x => .str x
  | _ => .none
theorem dp_ok {K : PySem.W.Frag} {H : Hp} : ∀ {x : V}, okV x = true → Dp K H x (dtV x)
  | .non, _ => .non
  | .bl b, _ => .bl b
  | .int i, _ => .int i
  | .str x, _ => .str x
  | .byt _, h => by cases h
  | .flt _, h => by cases h
  | .ref _, h => by cases h
  | .ty _, h => by cases h
theorem dps_ok {K : PySem.W.Frag} {H : Hp} : ∀ {xs : List V}, xs.all okV = true → DpAll K H xs (xs.map dtV)
  | [], _ => .nil
  | x :: r, h => by
    rw [List.all_cons, Bool.and_eq_true] at h
    exact .cons (dp_ok h.1) (dps_ok h.2)
theorem lay_ok : ∀ {x : V}, okV x = true → PyData.canLay0 (dtV x) = true ∧ PyData.depth (dtV x) = 0
  | .non, _ => ⟨rfl, rfl⟩
  | .bl b, _ => ⟨rfl, rfl⟩
  | .int i, _ => ⟨rfl, rfl⟩
  | .str x, h => ⟨h, rfl⟩
  | .byt _, h => by cases h
  | .flt _, h => by cases h
  | .ref _, h => by cases h
  | .ty _, h => by cases h
theorem lays_ok : ∀ {xs : List V}, xs.all okV = true → PyData.canLayAll0 (xs.map dtV) = true ∧ PyData.depthAll (xs.map dtV) = 0
  | [], _ => ⟨rfl, rfl⟩
  | x :: r, h => by
    rw [List.all_cons, Bool.and_eq_true] at h
    obtain ⟨h1, h2⟩ := lay_ok h.1
    obtain ⟨h3, h4⟩ := lays_ok h.2
    constructor
    · show (PyData.canLay0 (dtV x) && PyData.canLayAll0 (r.map dtV)) = true
      rw [h1, h3]
      rfl
    · show max (PyData.depth (dtV x)) (PyData.depthAll (r.map dtV)) = 0
      rw [h2, h4]
      rfl
theorem shaped_ok {xs : List V} (h : xs.all okV = true) : SeqAt.shaped (.list (xs.map dtV)) = true := by
  obtain ⟨h1, h2⟩ := lays_ok h
  unfold SeqAt.shaped
  rw [Bool.and_eq_true]
  refine ⟨h1, decide_eq_true ?_⟩
  show PyData.depthAll (xs.map dtV) + 1 ≤ 64
  rw [h2]
  decide
theorem eqv_ok : ∀ {x : V}, okV x = true → PyData.eqv (dtV x) (dtV x) = true
  | .non, _ => rfl
  | .bl b, _ => by simp [dtV, PyData.eqv]
  | .int i, _ => by simp [dtV, PyData.eqv]
  | .str x, _ => by simp [dtV, PyData.eqv]
  | .byt _, h => by cases h
  | .flt _, h => by cases h
  | .ref _, h => by cases h
  | .ty _, h => by cases h
theorem eqvs_ok : ∀ {xs : List V}, xs.all okV = true → PyData.eqvAll (xs.map dtV) (xs.map dtV) = true
  | [], _ => rfl
  | x :: r, h => by
    rw [List.all_cons, Bool.and_eq_true] at h
    show (PyData.eqv (dtV x) (dtV x) && PyData.eqvAll (r.map dtV) (r.map dtV)) = true
    rw [eqv_ok h.1, eqvs_ok h.2]
    rfl
theorem ne_lists {K : PySem.W.Frag} {H : Hp} {p q : Addr} {xs : List V} {Q : VK} (hp : SqL K H p xs) (hq : SqL K H q xs) (hf : xs.all okV = true) (k : Q (.bl false) H) : rNeD K (.ref p) (.ref q) H Q := by
  refine ⟨.list (xs.map dtV), .list (xs.map dtV), .lst hp (dps_ok hf), .lst hq (dps_ok hf), shaped_ok hf, shaped_ok hf, ?_⟩
  have e : PyData.eqv (.list (xs.map dtV)) (.list (xs.map dtV)) = true := eqvs_ok hf
  rw [e]
  exact k
/-- a value of a built-in type that is no object -/
theorem ty_ok {K : PySem.W.Frag} {H : Hp} : ∀ {x : V}, okV x = true → ∃ t, TyX K H x (.type t)
  | .non, _ => ⟨_, .base .non⟩
  | .bl b, _ => ⟨_, .base (.bl b)⟩
  | .int i, _ => ⟨_, .base (.int i)⟩
  | .str x, _ => ⟨_, .base (.str x)⟩
  | .byt _, h => by cases h
  | .flt _, h => by cases h
  | .ref _, h => by cases h
  | .ty _, h => by cases h
theorem tys_ok {K : PySem.W.Frag} : ∀ {x : V}, okV x = true → ∃ t, ∀ H : Hp, TyX K H x (.type t)
  | .non, _ => ⟨_, fun _ => .base .non⟩
  | .bl b, _ => ⟨_, fun _ => .base (.bl b)⟩
  | .int i, _ => ⟨_, fun _ => .base (.int i)⟩
  | .str x, _ => ⟨_, fun _ => .base (.str x)⟩
  | .byt _, h => by cases h
  | .flt _, h => by cases h
  | .ref _, h => by cases h
  | .ty _, h => by cases h
section
variable {K : PySem.W.Frag} {σ : L2.St} {H : Hp} {tl te : TE} {j : Nat} {vs : List Nat} {Q : VK}
/-- [e for c in a text] -/
theorem tlc_S (v : Nat → V) (z : Str) (htl : ∀ R : VK, R (.str z) H → tl σ H R) (hz : z.cps.size ≤ 100000) (hw : ∀ x, wipe ((wipe σ vs).set j (some x)) vs = wipe σ vs)
    (he : ∀ c ∈ z.cps.toList, ∀ H', Same H H' → ∀ R : VK, (∀ H2, Same H' H2 → R (v c) H2) → te ((wipe σ vs).set j (some (.str ⟨#[c]⟩))) H' R)
    (k : ∀ D H', H D = none → Same H H' → H' D = some (.lst (z.cps.toList.map v)) → Q (.ref D) H') : tLc (iStr tl) (gName j) tYes te vs σ H Q := by
  refine htl _ ⟨z, rfl, fun D hD => ?_⟩
  refine lc_it walk_str (fun i H' => Same H H' ∧ H' D = some (.lst ((z.cps.toList.take i).map v))) ⟨same_new hD, upd_same⟩ (fun _ _ _ _ => trivial) ?_ fun H' p => k D H' hD p.1 ?_
  · rintro i x H' H2 hi p ⟨rfl, c, hc, rfl⟩
    have hc2 : z.cps.toList[i]? = some c := by rw [Array.getElem?_toList]; exact hc
    have hm : c ∈ z.cps.toList := List.mem_of_getElem? hc2
    refine ⟨hw _, he c hm _ p.1 _ fun H3 s3 => ⟨_, s3 _ _ p.2, ?_, same_mut (p.1.trans s3) hD, ?_⟩⟩
    · rw [List.length_map, List.length_take]
      have e : sizeLine = 16777216 := by decide
      omega
    · rw [upd_same, List.take_add_one, hc2, List.map_append]
      rfl
  · have q := p.2
    rw [List.take_of_length_le (by simp)] at q
    exact q
end
/-- None and the ints from 0 to g -/
def valsTo (g : Int) : List V := .non :: rgV 0 (g + 1)
/-- all that is no list is as it was -/
def KeepNL (H H' : Hp) : Prop := ∀ b o, (∀ zs, o ≠ HO.lst zs) → H b = some o → H' b = some o
theorem KeepNL.of {H H' : Hp} (s : Same H H') : KeepNL H H' := fun b o _ e => s b o e
theorem KeepNL.lst {H : Hp} {D : Addr} {zs ys : List V} (h : H D = some (.lst zs)) : KeepNL H (upd H D (.lst ys)) := fun b o n e => by
  rw [upd_ne (fun q => by rw [q, h] at e; exact n zs (Option.some.inj e).symm)]
  exact e
section
variable {K : PySem.W.Frag} {σ : L2.St} {H : Hp} {tl te : TE} {j : Nat} {vs : List Nat} {Q : VK} {xs : List V}
/-- [e for x in xs], e making new objects (no lists among what is told of them) -/
theorem tlc_G (Rl : Nat → V → Hp → Prop) (mono : ∀ i y H H', KeepNL H H' → Rl i y H → Rl i y H') (htl : ∀ R : VK, (∀ a H1, Same H H1 → SqL K H1 a xs → R (.ref a) H1) → tl σ H R) (hz : xs.length ≤ 100000) (hw : ∀ x, wipe ((wipe σ vs).set j (some x)) vs = wipe σ vs)
    (he : ∀ i x, xs[i]? = some x → ∀ H', Same H H' → ∀ R : VK, (∀ y H2, Same H' H2 → Rl i y H2 → R y H2) → te ((wipe σ vs).set j (some x)) H' R)
    (k : ∀ D ys H', H D = none → Same H H' → H' D = some (.lst ys) → ys.length = xs.length → (∀ i y, ys[i]? = some y → Rl i y H') → Q (.ref D) H') : tLc (iList K tl) (gName j) tYes te vs σ H Q := by
  refine htl _ fun a H1 e1 hs => ⟨a, rfl, ⟨xs, hs⟩, fun D hD => ?_⟩
  refine lc_list (xs := xs) (fun i H' => Same H1 H' ∧ ∃ ys, H' D = some (.lst ys) ∧ ys.length = i ∧ ∀ m y, ys[m]? = some y → Rl m y H') ⟨same_new hD, [], upd_same, rfl, fun m y h => by simp at h⟩ (fun i H' _ p => p.1.seq hs) ?_ ?_
  · rintro i x H' hx ⟨s', ys, hys, hl, hr⟩
    have hi : i < xs.length := (List.getElem?_eq_some_iff.mp hx).1
    refine ⟨hw x, he i x hx H' (e1.trans s') _ fun y H2 s2 hy => ⟨ys, s2 _ _ hys, ?_, same_mut (s'.trans s2) hD, ys ++ [y], upd_same, by rw [List.length_append, hl]; rfl, fun m z hm => ?_⟩⟩
    · have e : sizeLine = 16777216 := by decide
      omega
    · have kp : KeepNL H2 (upd H2 D (.lst (ys ++ [y]))) := KeepNL.lst (s2 _ _ hys)
      by_cases hm2 : m < ys.length
      · rw [List.getElem?_append_left hm2] at hm
        exact mono m z _ _ kp (mono m z _ _ (KeepNL.of s2) (hr m z hm))
      · have hm3 : m = ys.length := by
          have h := (List.getElem?_eq_some_iff.mp hm).1
          rw [List.length_append] at h
          have : [y].length = 1 := rfl
          omega
        subst hm3
        rw [List.getElem?_append_right (Nat.le_refl _), Nat.sub_self] at hm
        obtain rfl : y = z := Option.some.inj hm
        rw [hl]
        exact mono i y _ _ kp hy
  · rintro H' ⟨s', ys, hys, hl, hr⟩
    exact k D ys H' (e1.free hD) (e1.trans s') hys hl hr
end
end Evl2
/-! ### own methods called by the language: len(x), v in x, x == y, of instances with a __dict__ -/
namespace Evl2
open PySem PySem.Spec PyProof.Rows L2
section
variable {X : Cx} {CX : CXT} {k : Nat} {f C : Addr} {fd : FuncData} {ps : List Str} {sp : Sp} {E : XK}
/-- an own function called at a place below the running body -/
theorem runA {A : Around} {pins : List (Addr × Obj)} {σ : L2.St} {H : Hp} {s : Shared} {Q : VK} {us : List Value} {vs : List V} (F : FnOk X.prog X.w X.K X.mg X.base CX k f fd ps sp) (hr : Room k A) (e0 : Env0 X.prog X.w X.K X.mg X.base A X.stack s H) (hb : Binds X.K fd ps []) (hx : Passes CX X E)
    (I : Inv X pins σ H s) (r : Vals vs us) (h : sp vs H Q E) : wpAny (model X.prog X.w) A (call (.ref f) us) (EP X pins σ Q) X.xe s := by
  have hl : us.length = ps.length := by rw [← r.length]; exact F.len _ _ _ _ h
  refine wpAny_call (codeAny_mono (F.run A X.stack s H ⟨us, []⟩ us vs Q E hr e0 (by
    have := hb s us I.kIn (by simpa using hl)
    simpa using this) r h) fun r s' hq => ?_)
  cases r with
  | error e => exact hx pins σ H s e s' I hq
  | ok fl =>
    cases fl with
    | ret u => exact I.after hq
    | next => exact False.elim hq
    | brk => exact False.elim hq
    | cont => exact False.elim hq
def rLenOwn (C : Addr) (sp : Sp) (E : XK) : List V → Hp → VK → Prop := fun xs H Q => ∃ a dx fs, xs = [V.ref a] ∧ H a = some (.ins C dx fs) ∧ sp [.ref a] H (fun z H' => ∃ i : Int, z = .int i ∧ (0 ≤ i ∧ i < 2 ^ 63) ∧ Q (.int i) H') E
/-- len(x), x with an own __len__ -/
theorem call_lenOwn (F : FnOk X.prog X.w X.K X.mg X.base CX k f fd ps sp) (hm : Meth X.K C "__len__" f) (hr : Room (k + 1) X.A) (hb : Binds X.K fd ps []) (hx : Passes CX X E) : CallR X (.builtin "len") (rLenOwn C sp E) := by
  intro pins s σ H xs us Q I r h
  obtain ⟨a, dx, fs, rfl, ha, q⟩ := h
  obtain ⟨u, rfl, ru⟩ := r.one
  cases (show u = Value.ref a from ru)
  obtain ⟨mA, J, _⟩ := ins_get I.hok ha
  obtain ⟨od, J, _⟩ := J.look
  obtain ⟨m, hF⟩ := I.fr
  refine PySem.W.len_K hF I.ok.mod.kin J hm.at_ hm.fn ?_
  refine wpAny_mono (runA (us := [.ref a]) (vs := [.ref a]) F hr.in1 I.env0.in1 hb hx I (.cons rfl .nil) q) (fun v s' z => ?_) fun _ _ e => e
  obtain ⟨z', H', I', rz, i, ei, hi, qz⟩ := z
  subst ei
  obtain ⟨t, e⟩ := (show ∃ t, v = Value.int i t from rz)
  cases e
  exact ⟨hi, .int i, H', I'.tok _, ⟨_, rfl⟩, qz⟩
def rInOwn (C : Addr) (sp : Sp) (E : XK) : R2 := fun x y H Q => ∃ a dx fs, y = .ref a ∧ H a = some (.ins C dx fs) ∧ sp [y, x] H (fun z H' => ∃ b, z = .bl b ∧ Q (.bl b) H') E
/-- v in x, x with an own __contains__ that answers a Bool -/
theorem op_inOwn (F : FnOk X.prog X.w X.K X.mg X.base CX k f fd ps sp) (hm : Meth X.K C "__contains__" f) (hr : Room k X.A) (hb : Binds X.K fd ps []) (hx : Passes CX X E) : OpR X (compareOp .In) (rInOwn C sp E) := by
  intro pins s σ H x y v u Q I rx ry h
  obtain ⟨a, dx, fs, rfl, ha, q⟩ := h
  cases (show u = Value.ref a from ry)
  obtain ⟨mA, J, _⟩ := ins_get I.hok ha
  obtain ⟨od, J, _⟩ := J.look
  obtain ⟨m, hF⟩ := I.fr
  refine PySem.W.in_K hF I.ok.mod.kin J hm.at_ hm.fn ?_
  refine wpAny_mono (runA (us := [.ref a, v]) (vs := [.ref a, x]) F hr I.env0 hb hx I (.cons rfl (.cons rx .nil)) q) (fun r s' z => ?_) fun _ _ e => e
  obtain ⟨z', H', I', rz, b, eb, qz⟩ := z
  subst eb
  cases (show r = Value.bool b from rz)
  exact wpAny_truthy_bool ⟨.bl b, H', I', rfl, qz⟩
def rEqOwn (C : Addr) (sp : Sp) (E : XK) : R2 := fun x y H Q => ∃ a dx fs b dy gs, x = .ref a ∧ y = .ref b ∧ H a = some (.ins C dx fs) ∧ H b = some (.ins C dy gs) ∧ sp [x, y] H (fun z H' => ∃ c, z = .bl c ∧ Q (.bl c) H') E
/-- x == y, both of a class with an own __eq__ that answers a Bool -/
theorem op_eqOwn (F : FnOk X.prog X.w X.K X.mg X.base CX k f fd ps sp) (hm : Meth X.K C "__eq__" f) (hr : Room k X.A) (hb : Binds X.K fd ps []) (hx : Passes CX X E) : OpR X (compareOp .Eq) (rEqOwn C sp E) := by
  intro pins s σ H x y v u Q I rx ry h
  obtain ⟨a, dx, fs, b, dy, gs, rfl, rfl, ha, hb', q⟩ := h
  cases (show v = Value.ref a from rx)
  cases (show u = Value.ref b from ry)
  obtain ⟨mA, J, _⟩ := ins_get I.hok ha
  obtain ⟨od, J, _⟩ := J.look
  obtain ⟨mB, J', _⟩ := ins_get I.hok hb'
  obtain ⟨od', J', _⟩ := J'.look
  obtain ⟨m, hF⟩ := I.fr
  show wpAny (model X.prog X.w) X.A (richCompare .Eq (.ref a) (.ref b)) (EP X pins σ Q) X.xe s
  refine PySem.W.cmp_K (op := .Eq) (tb := .ref C) hr.units0 hF I.ok.mod.kin J J'.type (by simp [PySem.W.notFirst]) hm.at_ hm.fn ?_
  refine wpAny_mono (runA (us := [.ref a, .ref b]) (vs := [.ref a, .ref b]) F hr I.env0 hb hx I (.cons rfl (.cons rfl .nil)) q) (fun r s' z => ?_) fun _ _ e => e
  obtain ⟨z', H', I', rz, c, ec, qz⟩ := z
  subst ec
  cases (show r = Value.bool c from rz)
  exact ⟨.bl c, H', I', rfl, qz⟩
end
end Evl2
/-! ### comprehensions over enumerate -/
namespace Evl2
open PySem PySem.Spec PyProof.Rows L2
section
variable {K : PySem.W.Frag} {σ : L2.St} {H : Hp} {ta : TA} {te : TE} {j1 j2 : Nat} {vs : List Nat} {Q : VK} {xs : List V}
/-- [e for i, x in enumerate(xs)], e making new objects (no lists among what is told of them) -/
theorem tlc_GE (Rl : Nat → V → Hp → Prop) (mono : ∀ i y H H', KeepNL H H' → Rl i y H → Rl i y H') (hta : ∀ R : List V → Hp → Prop, (∀ a H1, Same H H1 → SqL K H1 a xs → R [.ref a] H1) → ta σ H R) (hz : xs.length ≤ 100000) (hw : ∀ x y, wipe (((wipe σ vs).set j1 (some x)).set j2 (some y)) vs = wipe σ vs)
    (he : ∀ i x, xs[i]? = some x → ∀ H', Same H H' → ∀ R : VK, (∀ y H2, Same H' H2 → Rl i y H2 → R y H2) → te (((wipe σ vs).set j1 (some (.int (i : Nat)))).set j2 (some x)) H' R)
    (k : ∀ D ys H', H D = none → Same H H' → H' D = some (.lst ys) → ys.length = xs.length → (∀ i y, ys[i]? = some y → Rl i y H') → Q (.ref D) H') : tLc (iEnum K ta) (gTup K 2 (gCons (gName j1) (gCons (gName j2) gNil))) tYes te vs σ H Q := by
  refine hta _ fun a H1 e1 hs => ⟨a, xs, rfl, hs, fun D hD => ?_⟩
  refine lc_it walk_enum (fun i H' => Same H1 H' ∧ ∃ ys, H' D = some (.lst ys) ∧ ys.length = i ∧ ∀ m y, ys[m]? = some y → Rl m y H') ⟨same_new hD, [], upd_same, rfl, fun m y h => by simp at h⟩ (fun i H' _ p => p.1.seq hs) ?_ ?_
  · rintro i v H2 H3 hi ⟨s', ys, hys, hl, hr⟩ ⟨T, x', y', rfl, nT, rfl, ex, ey⟩
    obtain rfl := Option.some.inj ex
    have ey : xs[i]? = some y' := ey
    have st : Same H2 (upd H2 T (.tup [.int (i : Nat), y'])) := same_new nT
    refine ⟨T, _, rfl, sqT_of upd_same, rfl, _, _, rfl, _, _, rfl, rfl, hw _ _, he i y' ey _ (e1.trans (s'.trans st)) _ fun y H4 s2 hy => ⟨ys, s2 _ _ (st _ _ hys), ?_, same_mut (s'.trans (st.trans s2)) hD, ys ++ [y], upd_same, by rw [List.length_append, hl]; rfl, fun m z hm => ?_⟩⟩
    · have e : sizeLine = 16777216 := by decide
      omega
    · have kp : KeepNL H4 (upd H4 D (.lst (ys ++ [y]))) := KeepNL.lst (s2 _ _ (st _ _ hys))
      by_cases hm2 : m < ys.length
      · rw [List.getElem?_append_left hm2] at hm
        exact mono m z _ _ kp (mono m z _ _ (KeepNL.of (st.trans s2)) (hr m z hm))
      · have hm3 : m = ys.length := by
          have h := (List.getElem?_eq_some_iff.mp hm).1
          rw [List.length_append] at h
          have : [y].length = 1 := rfl
          omega
        subst hm3
        rw [List.getElem?_append_right (Nat.le_refl _), Nat.sub_self] at hm
        obtain rfl : y = z := Option.some.inj hm
        rw [hl]
        exact mono i y _ _ kp hy
  · rintro H' ⟨s', ys, hys, hl, hr⟩
    exact k D ys H' (e1.free hD) (e1.trans s') hys hl hr
end
end Evl2

namespace PySem
namespace OwnErr
open PySem.W PySem.Calls PyProof.Rows PySem.HandSPX Builtin Builtin.ObjectAttr
/-- the built-in classes below an own error class -/
structure Below (B newId initId : String) (low : List Value) : Prop where
  facts : ∃ lowB, ExcBaseFacts B newId initId lowB
  isB : low.contains (.type B) = true
  notA : low.contains (.type "AttributeError") = false
  notN : low.contains (.type "NameError") = false
  isO : low.contains (.type "object") = true
  pass : ∀ self : Value, refuseLoop self "__setattr__" low = pure ()
abbrev lowO : List Value := [.type "OverflowError", .type "ArithmeticError", .type "Exception", .type "BaseException", .type "object"]
abbrev lowR : List Value := [.type "RuntimeError", .type "Exception", .type "BaseException", .type "object"]
abbrev lowK : List Value := [.type "KeyError", .type "LookupError", .type "Exception", .type "BaseException", .type "object"]
theorem below_O : Below "OverflowError" "OverflowError.__new__" "OverflowError.__init__" lowO := ⟨⟨_, PySem.F.excBase_OverflowError⟩, by decide +kernel, by decide +kernel, by decide +kernel, by decide +kernel, fun self => by kernel_rfl⟩
theorem below_R : Below "RuntimeError" "RuntimeError.__new__" "RuntimeError.__init__" lowR := ⟨⟨_, PySem.F.excBase_RuntimeError⟩, by decide +kernel, by decide +kernel, by decide +kernel, by decide +kernel, fun self => by kernel_rfl⟩
theorem below_K : Below "LookupError" "LookupError.__new__" "LookupError.__init__" lowK := ⟨⟨_, PySem.F.excBase_LookupError⟩, by decide +kernel, by decide +kernel, by decide +kernel, by decide +kernel, fun self => by kernel_rfl⟩
def lowB (n : String) (low : List Value) : Bool := (n == "OverflowError.__new__" && low == lowO) || ((n == "RuntimeError.__new__" && low == lowR) || (n == "LookupError.__new__" && low == lowK))
theorem lowB_ok {n : String} {low : List Value} (h : lowB n low = true) : ∃ B i, Below B n i low := by
  unfold lowB at h
  simp only [Bool.or_eq_true, Bool.and_eq_true, beq_iff_eq] at h
  rcases h with ⟨rfl, rfl⟩ | ⟨rfl, rfl⟩ | ⟨rfl, rfl⟩
  · exact ⟨_, _, below_O⟩
  · exact ⟨_, _, below_R⟩
  · exact ⟨_, _, below_K⟩
section
variable {M : Model} {prog : Program} {w : World} {A : Around} {E : Value → Shared → Prop} {R : Result → Shared → Prop} {h : Heap} {g : Array GenState} {d : Drawn} {t : Nat} {os : OsState}
variable {c1 c2 : Str} {C N : Addr} {bs low : List Value} {hdct : Bool} {sn : List Str} {sub : List Value} {ab : Bool} {col : Option Bool} {dd : Option Addr} {k0 k1 k2 k3 k5 : Option Value} {B newId initId : String}
theorem check_new_low (U : Below B newId initId low) {args : List Value} {Q : Unit → Shared → Prop}
    (atC : h.get? C = some (excClassObj c1 c2 C N bs low hdct sn sub ab col dd k0 k1 k2 k3 k5 newId)) (q : Q () ⟨h, g, d, t, os⟩) : wpAny M A (checkBuiltinCall newId ⟨.ref C :: args, []⟩) Q E ⟨h, g, d, t, os⟩ := by
  obtain ⟨lB, ff⟩ := U.facts
  have isB : (Value.ref C :: low).contains (.type B) = true := by rw [List.contains_cons, U.isB, Bool.or_true]
  have star := ff.noStar
  simp only [checkBuiltinCall, ff.newKind, ff.newSplit, ff.newRow]
  repeat (first | refine wpAny_loadPart_at atC ?_ | (refine wpAny_isSubtype_exc atC ?_; rw [isB]) | refine wpAny_staticBase_exc atC ?_ | refine wpAny_madeBy_exc atC ?_ | simp only [bne_self_eq_false, Bool.false_eq_true, if_false] | wp_step)
  exact q
theorem new_low (U : Below B newId initId low) {args : List Value}
    (atC : h.get? C = some (excClassObj c1 c2 C N bs low hdct sn sub ab col dd k0 k1 k2 k3 k5 newId))
    (q : R (.ok (.ret (.ref (h.objs.size + 1)))) ⟨(h.push (W.kdv_tup args)).push (excO C h.objs.size), g, d, t, os⟩) (short : args.length ≤ sizeLine) :
    codeAny (model prog w) A (.builtin newId ⟨.ref C :: args, []⟩) R ⟨h, g, d, t, os⟩ := by
  obtain ⟨lB, ff⟩ := U.facts
  have ends := ff.ends
  have isB : (Value.ref C :: low).contains (.type B) = true := by rw [List.contains_cons, U.isB, Bool.or_true]
  have isA : (Value.ref C :: low).contains (.type "AttributeError") = false := by rw [List.contains_cons, U.notA]; rfl
  have isN : (Value.ref C :: low).contains (.type "NameError") = false := by rw [List.contains_cons, U.notN]; rfl
  refine codeAny_builtinAt ff.entry ?_
  unfold Builtin.«BaseException.__new__»
  refine wpAt_bind ?_
  show wpAt _ _ _ (stack >>= _) _ _ _
  refine wpAt_bind (wpAt_stack fun p below => wpAt_of_wpAny ?_)
  wp_walk
  refine wpAt_of_wpAny ?_
  rw [ff.owner]
  repeat (first | with_reducible refine wpAny_madeHere_exc ff.canon atC ?_ | with_reducible refine wpAny_loadPart_at atC ?_ | (with_reducible refine wpAny_isSubtype_exc atC ?_; first | rw [isB] | rw [isA] | rw [isN]) | wp_step)
  show R _ _
  rw [Heap.size_push]
  exact q
theorem type_call_low (U : Below B newId initId low) {args : List Value} {fI : Addr} {Q : Fin → Shared → Prop}
    (atC : h.get? C = some (excClassObj c1 c2 C N bs low hdct sn sub ab col dd k0 k1 k2 k3 k5 newId))
    (ini : W.Looks (model prog w) h (typeLookup (.ref C) "__init__") (some (.ref fI))) (bound : ∀ self, W.Looks (model prog w) h (bindSpecial (.ref fI) self) (.ref fI, [self])) (short : args.length ≤ sizeLine)
    (q : codeAny (model prog w) A (.call (.ref fI) ⟨.ref (h.objs.size + 1) :: args, []⟩)
      (fun r z => match r with | .error e => E e z | .ok (.ret v) => v = .none ∧ Q (.done (.ret (.ref (h.objs.size + 1)))) z | .ok _ => False)
      ⟨(h.push (W.kdv_tup args)).push (excO C h.objs.size), g, d, t, os⟩) :
    wpAny (model prog w) A (Builtin.«type.__call__» ⟨.ref C :: args, []⟩) Q E ⟨h, g, d, t, os⟩ := by
  obtain ⟨lB, ff⟩ := id U.facts
  repeat (first | with_reducible refine wpAny_loadPart_at atC ?_ | with_reducible refine wpAny_madeBy_exc atC ?_ | wp_step)
  refine codeAny_call_builtin_code (Code.quiet_builtin _ ff.quiet) (check_new_low U atC ?_)
  refine new_low U atC ?_ short
  show wpAny _ _ _ _ _ _
  have keeps : ∀ b o, h.get? b = some o → ((h.push (W.kdv_tup args)).push (excO C h.objs.size)).get? b = some o := fun b o e => Heap.get?_push_of_some _ (Heap.get?_push_of_some _ e)
  have atC2 := keeps _ _ atC
  have got : ((h.push (W.kdv_tup args)).push (excO C h.objs.size)).get? (h.objs.size + 1) = some (excO C h.objs.size) := by heap_get
  have isC : (Value.ref C :: low).contains (.ref C) = true := by simp
  have ini2 := ini.keeps keeps
  have bound2 := (bound (.ref (h.objs.size + 1))).keeps keeps
  unfold isInstance
  repeat (first | with_reducible refine wpAny_loadPart_at got ?_ | (with_reducible refine wpAny_isSubtype_exc atC2 ?_; rw [isC]) | wp_step)
  show wpAny _ _ (typeLookup (.ref C) _) _ _ _
  refine ini2.at ?_
  refine wpAny_holding (wpAny_bind (bound2.at ?_))
  refine wpAny_bind (wpAny_call (codeAny_mono q fun r z hz => ?_))
  rcases r with e | (v | _ | _ | _) <;> first | exact hz | exact hz.elim | skip
  obtain ⟨rfl, hz⟩ := hz
  first
    | exact wpAny_pure (wpAny_pure hz)
    | (wp_walk; exact hz)
theorem call_low (U : Below B newId initId low) {args : List Value} {fI : Addr}
    (atC : h.get? C = some (excClassObj c1 c2 C N bs low hdct sn sub ab col dd k0 k1 k2 k3 k5 newId))
    (ini : W.Looks (model prog w) h (typeLookup (.ref C) "__init__") (some (.ref fI))) (bound : ∀ self, W.Looks (model prog w) h (bindSpecial (.ref fI) self) (.ref fI, [self])) (short : args.length ≤ sizeLine)
    (q : codeAny (model prog w) (A.under (.builtin "type.__call__" ⟨.ref C :: args, []⟩)) (.call (.ref fI) ⟨.ref (h.objs.size + 1) :: args, []⟩) (W.InitBack (h.objs.size + 1) R)
      ⟨(h.push (W.kdv_tup args)).push (excO C h.objs.size), g, d, t, os⟩) :
    codeAny (model prog w) A (.call (.ref C) ⟨args, []⟩) R ⟨h, g, d, t, os⟩ := by
  have l1 := tc_lookup
  have l2 := tc_bind (.ref C)
  have l3 : (⟨h, g, d, t, os⟩ : Shared).TypeIs (.ref C) "type" := ⟨_, atC, rfl⟩
  refine codeAny_of_tree ?_
  show wpAny _ _ (callAny (.ref C) _) _ _ _
  repeat (any_goals (first | assumption | with_reducible refine wpAny_loadPart_at atC ?_ | wp_step))
  refine ⟨rfl, ?_⟩
  refine codeAny_call_builtin_at (Code.quiet_builtin _ (by decide +kernel)) entry_typeCall (wpAny_check_type_call_sub atC (type_call_low U atC ini bound short ?_))
  refine codeAny_mono q fun r z hz => ?_
  rcases r with e | (v | _ | _ | _) <;> exact hz
/-- self.f = v on such an exception that has no dict as yet -/
theorem osa_low {K : W.Frag} {f : Str} {tk : Tok} {v : Value} {x : Addr} {fv : Array Value} {cd : ClassData} (U : Below B newId initId low)
    (inK : K.In h) (atx : h.get? x = some { cls := .ref C, data := .fields fv }) (isCd : W.clsIn K C = some cd) (mro : cd.mro = .ref C :: low) (hasD : cd.hasDict = true) (no : W.findIn K (.ref C) f = some none)
    (q : ∀ h' tk' dx, (∀ b o, b ≠ x → h.get? b = some o → h'.get? b = some o) → h.objs.size ≤ dx → dx ≠ x → h'.get? x = some { cls := .ref C, dict := some dx, data := .fields fv } →
      h'.Ns1 dx (fun y => if y = f then some v else none) → R (.ok (.ret .none)) ⟨h', g, d, tk', os⟩) :
    codeAny (model prog w) A (.call (.builtin "object.__setattr__") ⟨[.ref x, .str f tk, v], []⟩) R ⟨h, g, d, t, os⟩ := by
  have I : W.InstAt h x { cls := .ref C, data := .fields fv } C none := ⟨atx, rfl, rfl, trivial⟩
  have SO := F.store_object
  have isO : cd.mro.contains (.type "object") = true := by rw [mro, List.contains_cons, U.isO, Bool.or_true]
  have some_ : cd.mro.isEmpty = false := by rw [mro]; rfl
  have apart : x ≠ h.objs.size := Nat.ne_of_lt (Heap.lt_size atx)
  have under : W.Looks (model prog w) h (isInstance (.ref x) (.type "object")) true := I.type.andThen (W.looks_mroIn inK (by unfold W.mroIn; rw [isCd, Option.bind_some, if_neg (by rw [some_]; decide), isO]))
  refine codeAny_call_builtin SO.slot.plain SO.entry (@W.check_slot (model prog w) _ _ ⟨h, g, d, t, os⟩ "object.__setattr__" "object" "__setattr__" (.ref x) [.str f tk, v] [] _ SO.kind SO.split under (SO.args (.ref x) (.str f tk) v) ?_)
  have lm : W.Looks (model prog w) h (mroOf (.ref C)) cd.mro := (W.looks_clsIn inK isCd).andThen .now
  have lt : W.Looks (model prog w) h (storeTaker? none) none := .now
  have lc : W.Looks (model prog w) h (classData C) cd := W.looks_clsIn inK isCd
  rw [W.osa_eq, refuse_eq]
  refine wpAny_bind (wpAny_bind (I.type.at (wpAny_bind (lm.at ?_))))
  rw [mro, refuseLoop_ref, U.pass]
  refine wpAny_pure (wpAny_bind (I.type.at (wpAny_bind ((W.looks_findIn inK no).at (wpAny_bind (lt.at ?_))))))
  show wpAny _ _ (storeInOwnDict (.ref x) (.ref C) (.str f tk) f v false) _ _ _
  obtain ⟨n1, n2, n3, n4, n5, has, n7, n8, n9, n10, n11⟩ := cd
  dsimp only at hasD
  subst hasD
  unfold storeInOwnDict ownDictForStores
  repeat (first | with_reducible refine store_in_new ?_ ?_ | with_reducible refine wpAny_loadPart_at atx ?_ | with_reducible refine lc.at ?_ | wp_step)
  · exact ⟨_, #[], _, (Heap.get?_update_ne _ _ _ _ apart.symm).trans (Heap.get?_push_at rfl rfl), rfl, fun e he => absurd he (by simp), fun _ => rfl⟩
  · intro h' tk' isNs same
    have atx2 : (h.push { cls := .type "dict", data := .dict #[] }).get? x = some { cls := .ref C, data := .fields fv } := Heap.get?_push_of_some _ atx
    refine q h' tk' h.objs.size (fun b o nb ho => ?_) (Nat.le_refl _) apart.symm ?_ isNs
    · exact (same.2 b (Nat.ne_of_lt (Heap.lt_size ho))).trans ((Heap.get?_update_ne _ _ _ _ nb).trans (Heap.get?_push_of_some _ ho))
    · exact (same.2 x apart).trans (Heap.get?_update_self _ atx2 rfl)
end
end OwnErr
end PySem
namespace Evl2
open PySem PySem.Spec PyProof.Rows L2
/-- what the written part says of such a class -/
structure OegC (K : PySem.W.Frag) (C : Addr) : Prop where
  cls : ∃ c1 c2 N bs low sn sub ab col dd k0 k1 k2 k3 k5 B newId initId, K.lookup C = some (excClassObj c1 c2 C N bs low true sn sub ab col dd k0 k1 k2 k3 k5 newId) ∧ PySem.OwnErr.Below B newId initId low
  sa : PySem.W.findIn K (.ref C) "__setattr__" = some (some (.builtin "object.__setattr__"))
  exC : PySem.W.subIn K (.ref C) (.type "BaseException") = some true
  tyC : PySem.W.typeIn K (.ref C) = some (.type "type")
  kC : PySem.W.keepIn K (.ref C) = true
def oegB (K : PySem.W.Frag) (x f : Str) : Bool := (match K.lookup (He.ga K x) with
  | some ⟨.type "type", _, .cls cd, sl⟩ => (match cd.mro, sl.toList with
    | .ref C' :: low, [_, _, _, _, some (.builtin n), _] => C' == He.ga K x && (PySem.OwnErr.lowB n low && (!cd.hasDel && cd.hasDict))
    | _, _ => false)
  | _ => false) && (decide (PySem.W.findIn K (.ref (He.ga K x)) "__setattr__" = some (some (.builtin "object.__setattr__"))) && (decide (PySem.W.subIn K (.ref (He.ga K x)) (.type "BaseException") = some true) && (decide (PySem.W.typeIn K (.ref (He.ga K x)) = some (.type "type")) &&
    (PySem.W.keepIn K (.ref (He.ga K x)) && (xfB K (He.ga K x) && (decide (PySem.W.findIn K (.ref (He.ga K x)) "__init__" = some (some (.ref (He.ma K (He.ga K x) "__init__")))) && (decide (PySem.W.typeIn K (.ref (He.ma K (He.ga K x) "__init__")) = some (.type "function")) &&
    (decide (PySem.W.findIn K (.ref (He.ga K x)) f = some none) && decide (PySem.W.exmOne K (.ref (He.ga K x)) (.ref (He.ga K x)) = some true)))))))))
structure OegF (K : PySem.W.Frag) (x f : Str) : Prop where
  o : OegC K (He.ga K x)
  xf : XfC K (He.ga K x)
  i : PySem.W.findIn K (.ref (He.ga K x)) "__init__" = some (some (.ref (He.ma K (He.ga K x) "__init__")))
  ti : PySem.W.typeIn K (.ref (He.ma K (He.ga K x) "__init__")) = some (.type "function")
  no : PySem.W.findIn K (.ref (He.ga K x)) f = some none
  me : PySem.W.exmOne K (.ref (He.ga K x)) (.ref (He.ga K x)) = some true
theorem oegB_ok {K : PySem.W.Frag} {x f : Str} (h : oegB K x f = true) : OegF K x f := by
  unfold oegB at h
  simp only [Bool.and_eq_true, decide_eq_true_eq] at h
  obtain ⟨h0, h1, h2, h3, h4, h5, h6, h7, h8, h9⟩ := h
  refine ⟨⟨?_, h1, h2, h3, h4⟩, xfB_ok h5, h6, h7, h8, h9⟩
  split at h0
  · rename_i dd cd sl ho
    split at h0
    · rename_i C' low k0 k1 k2 k3 n k5 hm hs
      simp only [Bool.and_eq_true, beq_iff_eq, Bool.not_eq_true'] at h0
      obtain ⟨hc, hl, hdel, hd⟩ := h0
      obtain ⟨nm, bs, mro, ns, qn, hd', sn, sub, ab, col, del⟩ := cd
      dsimp only at hm hdel hd
      subst hm hdel hd hc
      have hsl : sl = #[k0, k1, k2, k3, some (.builtin n), k5] := by
        obtain ⟨l⟩ := sl
        simp only at hs
        rw [hs]
      subst hsl
      obtain ⟨B, i, U⟩ := PySem.OwnErr.lowB_ok hl
      exact ⟨_, _, _, _, _, _, _, _, _, _, _, _, _, _, _, _, _, _, ho, U⟩
    · cases h0
  · cases h0
/-- an exception of the class x is none of the class y -/
def exnB (K : PySem.W.Frag) (x y : Str) : Bool := decide (PySem.W.exmOne K (.ref (He.ga K x)) (.ref (He.ga K y)) = some false)
theorem exnB_ok {K : PySem.W.Frag} {x y : Str} (h : exnB K x y = true) : PySem.W.exmOne K (.ref (He.ga K x)) (.ref (He.ga K y)) = some false := of_decide_eq_true h
end Evl2
namespace ER
open PySem PySem.Spec PyProof.Rows L2 Evl2
def top (i : Nat) : Stmt := PySem.Challenge.pw_editionrows_k09_whole_numbers.main.body.getD i (.Pass ⟨0, 0, 0, 0⟩)
abbrev s__wall : Stmt := top 0
theorem sc__wall : FnScope ["k"] ["k"] (defScope s__wall) := ⟨rfl, rfl, rfl, by decide +kernel, rfl, by decide +kernel, by decide +kernel⟩
def d__wall : He.DefD := ⟨("_wall", none), "_wall", "_wall", defArgs s__wall, defBody s__wall, defScope s__wall, [], []⟩
abbrev s_BadColumn___init__ : Stmt := inClass (top 3) 0
theorem sc_BadColumn___init__ : FnScope ["self", "index"] ["self", "index"] (defScope s_BadColumn___init__) := ⟨rfl, rfl, rfl, by decide +kernel, rfl, by decide +kernel, by decide +kernel⟩
def d_BadColumn___init__ : He.DefD := ⟨("BadColumn", some "__init__"), "__init__", "BadColumn.__init__", defArgs s_BadColumn___init__, defBody s_BadColumn___init__, defScope s_BadColumn___init__, [], []⟩
abbrev s_BadPart___init__ : Stmt := inClass (top 4) 0
theorem sc_BadPart___init__ : FnScope ["self", "part"] ["self", "part"] (defScope s_BadPart___init__) := ⟨rfl, rfl, rfl, by decide +kernel, rfl, by decide +kernel, by decide +kernel⟩
def d_BadPart___init__ : He.DefD := ⟨("BadPart", some "__init__"), "__init__", "BadPart.__init__", defArgs s_BadPart___init__, defBody s_BadPart___init__, defScope s_BadPart___init__, [], []⟩
abbrev s_BadChange___init__ : Stmt := inClass (top 5) 0
theorem sc_BadChange___init__ : FnScope ["self", "index"] ["self", "index"] (defScope s_BadChange___init__) := ⟨rfl, rfl, rfl, by decide +kernel, rfl, by decide +kernel, by decide +kernel⟩
def d_BadChange___init__ : He.DefD := ⟨("BadChange", some "__init__"), "__init__", "BadChange.__init__", defArgs s_BadChange___init__, defBody s_BadChange___init__, defScope s_BadChange___init__, [], []⟩
abbrev s_BadEdition___init__ : Stmt := inClass (top 6) 0
theorem sc_BadEdition___init__ : FnScope ["self", "edition"] ["self", "edition"] (defScope s_BadEdition___init__) := ⟨rfl, rfl, rfl, by decide +kernel, rfl, by decide +kernel, by decide +kernel⟩
def d_BadEdition___init__ : He.DefD := ⟨("BadEdition", some "__init__"), "__init__", "BadEdition.__init__", defArgs s_BadEdition___init__, defBody s_BadEdition___init__, defScope s_BadEdition___init__, [], []⟩
abbrev s_UnknownName___init__ : Stmt := inClass (top 7) 0
theorem sc_UnknownName___init__ : FnScope ["self", "name"] ["self", "name"] (defScope s_UnknownName___init__) := ⟨rfl, rfl, rfl, by decide +kernel, rfl, by decide +kernel, by decide +kernel⟩
def d_UnknownName___init__ : He.DefD := ⟨("UnknownName", some "__init__"), "__init__", "UnknownName.__init__", defArgs s_UnknownName___init__, defBody s_UnknownName___init__, defScope s_UnknownName___init__, [], []⟩
abbrev s_TooMany___init__ : Stmt := inClass (top 8) 0
theorem sc_TooMany___init__ : FnScope ["self", "limit"] ["self", "limit"] (defScope s_TooMany___init__) := ⟨rfl, rfl, rfl, by decide +kernel, rfl, by decide +kernel, by decide +kernel⟩
def d_TooMany___init__ : He.DefD := ⟨("TooMany", some "__init__"), "__init__", "TooMany.__init__", defArgs s_TooMany___init__, defBody s_TooMany___init__, defScope s_TooMany___init__, [], []⟩
abbrev s_is_whole : Stmt := top 14
theorem sc_is_whole : FnScope ["value"] ["value"] (defScope s_is_whole) := ⟨rfl, rfl, rfl, by decide +kernel, rfl, by decide +kernel, by decide +kernel⟩
def d_is_whole : He.DefD := ⟨("is_whole", none), "is_whole", "is_whole", defArgs s_is_whole, defBody s_is_whole, defScope s_is_whole, [], []⟩
abbrev s_is_list : Stmt := top 15
theorem sc_is_list : FnScope ["value"] ["value"] (defScope s_is_list) := ⟨rfl, rfl, rfl, by decide +kernel, rfl, by decide +kernel, by decide +kernel⟩
def d_is_list : He.DefD := ⟨("is_list", none), "is_list", "is_list", defArgs s_is_list, defBody s_is_list, defScope s_is_list, [], []⟩
abbrev s_is_word : Stmt := top 16
theorem sc_is_word : FnScope ["value", "words"] ["value", "words"] (defScope s_is_word) := ⟨rfl, rfl, rfl, by decide +kernel, rfl, by decide +kernel, by decide +kernel⟩
def d_is_word : He.DefD := ⟨("is_word", none), "is_word", "is_word", defArgs s_is_word, defBody s_is_word, defScope s_is_word, [], []⟩
abbrev s_is_name : Stmt := top 17
theorem sc_is_name : FnScope ["value", "letter"] ["value"] (defScope s_is_name) := ⟨rfl, rfl, rfl, by decide +kernel, rfl, by decide +kernel, by decide +kernel⟩
def d_is_name : He.DefD := ⟨("is_name", none), "is_name", "is_name", defArgs s_is_name, defBody s_is_name, defScope s_is_name, [], []⟩
abbrev s_is_greatest : Stmt := top 18
theorem sc_is_greatest : FnScope ["value"] ["value"] (defScope s_is_greatest) := ⟨rfl, rfl, rfl, by decide +kernel, rfl, by decide +kernel, by decide +kernel⟩
def d_is_greatest : He.DefD := ⟨("is_greatest", none), "is_greatest", "is_greatest", defArgs s_is_greatest, defBody s_is_greatest, defScope s_is_greatest, [], []⟩
abbrev s_is_value : Stmt := top 19
theorem sc_is_value : FnScope ["value"] ["value"] (defScope s_is_value) := ⟨rfl, rfl, rfl, by decide +kernel, rfl, by decide +kernel, by decide +kernel⟩
def d_is_value : He.DefD := ⟨("is_value", none), "is_value", "is_value", defArgs s_is_value, defBody s_is_value, defScope s_is_value, [], []⟩
abbrev s_is_within : Stmt := top 20
theorem sc_is_within : FnScope ["value", "greatest"] ["value", "greatest"] (defScope s_is_within) := ⟨rfl, rfl, rfl, by decide +kernel, rfl, by decide +kernel, by decide +kernel⟩
def d_is_within : He.DefD := ⟨("is_within", none), "is_within", "is_within", defArgs s_is_within, defBody s_is_within, defScope s_is_within, [], []⟩
abbrev s_Column___init__ : Stmt := inClass (top 23) 0
theorem sc_Column___init__ : FnScope ["self", "name", "greatest", "default", "number"] ["self", "name", "greatest", "default", "number"] (defScope s_Column___init__) := ⟨rfl, rfl, rfl, by decide +kernel, rfl, by decide +kernel, by decide +kernel⟩
def d_Column___init__ : He.DefD := ⟨("Column", some "__init__"), "__init__", "Column.__init__", defArgs s_Column___init__, defBody s_Column___init__, defScope s_Column___init__, [.non], [("number", (.int 0))]⟩
abbrev s_Column___eq__ : Stmt := inClass (top 23) 1
theorem sc_Column___eq__ : FnScope ["self", "other"] ["self", "other"] (defScope s_Column___eq__) := ⟨rfl, rfl, rfl, by decide +kernel, rfl, by decide +kernel, by decide +kernel⟩
def d_Column___eq__ : He.DefD := ⟨("Column", some "__eq__"), "__eq__", "Column.__eq__", defArgs s_Column___eq__, defBody s_Column___eq__, defScope s_Column___eq__, [], []⟩
abbrev s_Column___contains__ : Stmt := inClass (top 23) 2
theorem sc_Column___contains__ : FnScope ["self", "x"] ["self", "x"] (defScope s_Column___contains__) := ⟨rfl, rfl, rfl, by decide +kernel, rfl, by decide +kernel, by decide +kernel⟩
def d_Column___contains__ : He.DefD := ⟨("Column", some "__contains__"), "__contains__", "Column.__contains__", defArgs s_Column___contains__, defBody s_Column___contains__, defScope s_Column___contains__, [], []⟩
abbrev s_Column_all_values : Stmt := inClass (top 23) 3
theorem sc_Column_all_values : FnScope ["self"] ["self"] (defScope s_Column_all_values) := ⟨rfl, rfl, rfl, by decide +kernel, rfl, by decide +kernel, by decide +kernel⟩
def d_Column_all_values : He.DefD := ⟨("Column", some "all_values"), "all_values", "Column.all_values", defArgs s_Column_all_values, defBody s_Column_all_values, defScope s_Column_all_values, [], []⟩
abbrev s_Column_changed : Stmt := inClass (top 23) 4
theorem sc_Column_changed : FnScope ["self", "part", "value", "parts"] ["self", "part", "value"] (defScope s_Column_changed) := ⟨rfl, rfl, rfl, by decide +kernel, rfl, by decide +kernel, by decide +kernel⟩
def d_Column_changed : He.DefD := ⟨("Column", some "changed"), "changed", "Column.changed", defArgs s_Column_changed, defBody s_Column_changed, defScope s_Column_changed, [], []⟩
abbrev s_column_named : Stmt := top 24
theorem sc_column_named : FnScope ["columns", "name", "column"] ["columns", "name"] (defScope s_column_named) := ⟨rfl, rfl, rfl, by decide +kernel, rfl, by decide +kernel, by decide +kernel⟩
def d_column_named : He.DefD := ⟨("column_named", none), "column_named", "column_named", defArgs s_column_named, defBody s_column_named, defScope s_column_named, [], []⟩
abbrev s_column_numbered : Stmt := top 25
theorem sc_column_numbered : FnScope ["columns", "number", "column"] ["columns", "number"] (defScope s_column_numbered) := ⟨rfl, rfl, rfl, by decide +kernel, rfl, by decide +kernel, by decide +kernel⟩
def d_column_numbered : He.DefD := ⟨("column_numbered", none), "column_numbered", "column_numbered", defArgs s_column_numbered, defBody s_column_numbered, defScope s_column_numbered, [], []⟩
abbrev s_is_change : Stmt := top 29
theorem sc_is_change : FnScope ["value"] ["value"] (defScope s_is_change) := ⟨rfl, rfl, rfl, by decide +kernel, rfl, by decide +kernel, by decide +kernel⟩
def d_is_change : He.DefD := ⟨("is_change", none), "is_change", "is_change", defArgs s_is_change, defBody s_is_change, defScope s_is_change, [], []⟩
abbrev s_has_parts : Stmt := top 30
theorem sc_has_parts : FnScope ["kind", "parts"] ["kind", "parts"] (defScope s_has_parts) := ⟨rfl, rfl, rfl, by decide +kernel, rfl, by decide +kernel, by decide +kernel⟩
def d_has_parts : He.DefD := ⟨("has_parts", none), "has_parts", "has_parts", defArgs s_has_parts, defBody s_has_parts, defScope s_has_parts, [], []⟩
abbrev s_is_single_part : Stmt := top 31
theorem sc_is_single_part : FnScope ["kind", "part"] ["kind", "part"] (defScope s_is_single_part) := ⟨rfl, rfl, rfl, by decide +kernel, rfl, by decide +kernel, by decide +kernel⟩
def d_is_single_part : He.DefD := ⟨("is_single_part", none), "is_single_part", "is_single_part", defArgs s_is_single_part, defBody s_is_single_part, defScope s_is_single_part, [], []⟩
abbrev s_is_way : Stmt := top 32
theorem sc_is_way : FnScope ["value"] ["value"] (defScope s_is_way) := ⟨rfl, rfl, rfl, by decide +kernel, rfl, by decide +kernel, by decide +kernel⟩
def d_is_way : He.DefD := ⟨("is_way", none), "is_way", "is_way", defArgs s_is_way, defBody s_is_way, defScope s_is_way, [], []⟩
abbrev s_kind_of : Stmt := top 33
theorem sc_kind_of : FnScope ["change"] ["change"] (defScope s_kind_of) := ⟨rfl, rfl, rfl, by decide +kernel, rfl, by decide +kernel, by decide +kernel⟩
def d_kind_of : He.DefD := ⟨("kind_of", none), "kind_of", "kind_of", defArgs s_kind_of, defBody s_kind_of, defScope s_kind_of, [], []⟩
abbrev s_hindrance : Stmt := top 34
theorem sc_hindrance : FnScope ["columns", "change", "kind", "column"] ["columns", "change"] (defScope s_hindrance) := ⟨rfl, rfl, rfl, by decide +kernel, rfl, by decide +kernel, by decide +kernel⟩
def d_hindrance : He.DefD := ⟨("hindrance", none), "hindrance", "hindrance", defArgs s_hindrance, defBody s_hindrance, defScope s_hindrance, [], []⟩
abbrev s_add_hindrance : Stmt := top 35
theorem sc_add_hindrance : FnScope ["columns", "namesake", "change"] ["columns", "namesake", "change"] (defScope s_add_hindrance) := ⟨rfl, rfl, rfl, by decide +kernel, rfl, by decide +kernel, by decide +kernel⟩
def d_add_hindrance : He.DefD := ⟨("add_hindrance", none), "add_hindrance", "add_hindrance", defArgs s_add_hindrance, defBody s_add_hindrance, defScope s_add_hindrance, [], []⟩
abbrev s_columns_behind : Stmt := top 36
theorem sc_columns_behind : FnScope ["columns", "change", "number", "kind", "name", "column"] ["columns", "change", "number"] (defScope s_columns_behind) := ⟨rfl, rfl, rfl, by decide +kernel, rfl, by decide +kernel, by decide +kernel⟩
def d_columns_behind : He.DefD := ⟨("columns_behind", none), "columns_behind", "columns_behind", defArgs s_columns_behind, defBody s_columns_behind, defScope s_columns_behind, [], []⟩
abbrev s_changed_column : Stmt := top 37
theorem sc_changed_column : FnScope ["column", "change", "kind", "default"] ["column", "change"] (defScope s_changed_column) := ⟨rfl, rfl, rfl, by decide +kernel, rfl, by decide +kernel, by decide +kernel⟩
def d_changed_column : He.DefD := ⟨("changed_column", none), "changed_column", "changed_column", defArgs s_changed_column, defBody s_changed_column, defScope s_changed_column, [], []⟩
abbrev s_changed_value : Stmt := top 38
theorem sc_changed_value : FnScope ["column", "change", "value"] ["column", "change", "value"] (defScope s_changed_value) := ⟨rfl, rfl, rfl, by decide +kernel, rfl, by decide +kernel, by decide +kernel⟩
def d_changed_value : He.DefD := ⟨("changed_value", none), "changed_value", "changed_value", defArgs s_changed_value, defBody s_changed_value, defScope s_changed_value, [], []⟩
abbrev s_value_above : Stmt := top 39
theorem sc_value_above : FnScope ["change"] ["change"] (defScope s_value_above) := ⟨rfl, rfl, rfl, by decide +kernel, rfl, by decide +kernel, by decide +kernel⟩
def d_value_above : He.DefD := ⟨("value_above", none), "value_above", "value_above", defArgs s_value_above, defBody s_value_above, defScope s_value_above, [], []⟩
abbrev s_is_edition : Stmt := top 42
theorem sc_is_edition : FnScope ["history", "value"] ["history", "value"] (defScope s_is_edition) := ⟨rfl, rfl, rfl, by decide +kernel, rfl, by decide +kernel, by decide +kernel⟩
def d_is_edition : He.DefD := ⟨("is_edition", none), "is_edition", "is_edition", defArgs s_is_edition, defBody s_is_edition, defScope s_is_edition, [], []⟩
abbrev s_edition_of : Stmt := top 43
theorem sc_edition_of : FnScope ["history", "edition"] ["history", "edition"] (defScope s_edition_of) := ⟨rfl, rfl, rfl, by decide +kernel, rfl, by decide +kernel, by decide +kernel⟩
def d_edition_of : He.DefD := ⟨("edition_of", none), "edition_of", "edition_of", defArgs s_edition_of, defBody s_edition_of, defScope s_edition_of, [], []⟩
abbrev s_numbered_columns : Stmt := top 44
theorem sc_numbered_columns : FnScope ["columns", "names", "index", "column"] ["columns"] (defScope s_numbered_columns) := ⟨rfl, rfl, rfl, by decide +kernel, rfl, by decide +kernel, by decide +kernel⟩
def d_numbered_columns : He.DefD := ⟨("numbered_columns", none), "numbered_columns", "numbered_columns", defArgs s_numbered_columns, defBody s_numbered_columns, defScope s_numbered_columns, [], []⟩
abbrev s_columns_of_editions : Stmt := top 45
theorem sc_columns_of_editions : FnScope ["first", "changes", "editions", "number", "index", "change", "columns"] ["first", "changes"] (defScope s_columns_of_editions) := ⟨rfl, rfl, rfl, by decide +kernel, rfl, by decide +kernel, by decide +kernel⟩
def d_columns_of_editions : He.DefD := ⟨("columns_of_editions", none), "columns_of_editions", "columns_of_editions", defArgs s_columns_of_editions, defBody s_columns_of_editions, defScope s_columns_of_editions, [], []⟩
abbrev s_births : Stmt := top 46
theorem sc_births : FnScope ["editions", "born", "edition", "columns", "column"] ["editions"] (defScope s_births) := ⟨rfl, rfl, rfl, by decide +kernel, rfl, by decide +kernel, by decide +kernel⟩
def d_births : He.DefD := ⟨("births", none), "births", "births", defArgs s_births, defBody s_births, defScope s_births, [], []⟩
abbrev s_drops : Stmt := top 47
theorem sc_drops : FnScope ["editions", "many", "dropped", "edition", "column"] ["editions", "many"] (defScope s_drops) := ⟨rfl, rfl, rfl, by decide +kernel, rfl, by decide +kernel, by decide +kernel⟩
def d_drops : He.DefD := ⟨("drops", none), "drops", "drops", defArgs s_drops, defBody s_drops, defScope s_drops, [], []⟩
abbrev s_History___init__ : Stmt := inClass (top 48) 0
theorem sc_History___init__ : FnScope ["self", "columns", "changes"] ["self", "columns", "changes"] (defScope s_History___init__) := ⟨rfl, rfl, rfl, by decide +kernel, rfl, by decide +kernel, by decide +kernel⟩
def d_History___init__ : He.DefD := ⟨("History", some "__init__"), "__init__", "History.__init__", defArgs s_History___init__, defBody s_History___init__, defScope s_History___init__, [(.adr (He.dflAt ("History", some "__init__") 0))], []⟩
abbrev s_History___eq__ : Stmt := inClass (top 48) 1
theorem sc_History___eq__ : FnScope ["self", "other"] ["self", "other"] (defScope s_History___eq__) := ⟨rfl, rfl, rfl, by decide +kernel, rfl, by decide +kernel, by decide +kernel⟩
def d_History___eq__ : He.DefD := ⟨("History", some "__eq__"), "__eq__", "History.__eq__", defArgs s_History___eq__, defBody s_History___eq__, defScope s_History___eq__, [], []⟩
abbrev s_History___len__ : Stmt := inClass (top 48) 2
theorem sc_History___len__ : FnScope ["self"] ["self"] (defScope s_History___len__) := ⟨rfl, rfl, rfl, by decide +kernel, rfl, by decide +kernel, by decide +kernel⟩
def d_History___len__ : He.DefD := ⟨("History", some "__len__"), "__len__", "History.__len__", defArgs s_History___len__, defBody s_History___len__, defScope s_History___len__, [], []⟩
abbrev s_History___getitem__ : Stmt := inClass (top 48) 3
theorem sc_History___getitem__ : FnScope ["self", "at"] ["self", "at"] (defScope s_History___getitem__) := ⟨rfl, rfl, rfl, by decide +kernel, rfl, by decide +kernel, by decide +kernel⟩
def d_History___getitem__ : He.DefD := ⟨("History", some "__getitem__"), "__getitem__", "History.__getitem__", defArgs s_History___getitem__, defBody s_History___getitem__, defScope s_History___getitem__, [], []⟩
abbrev s_History___iter__ : Stmt := inClass (top 48) 4
theorem sc_History___iter__ : FnScope ["self"] ["self"] (defScope s_History___iter__) := ⟨rfl, rfl, rfl, by decide +kernel, rfl, by decide +kernel, by decide +kernel⟩
def d_History___iter__ : He.DefD := ⟨("History", some "__iter__"), "__iter__", "History.__iter__", defArgs s_History___iter__, defBody s_History___iter__, defScope s_History___iter__, [], []⟩
abbrev s_History_first_columns : Stmt := inClass (top 48) 5
theorem sc_History_first_columns : FnScope ["self"] ["self"] (defScope s_History_first_columns) := ⟨rfl, rfl, rfl, by decide +kernel, rfl, by decide +kernel, by decide +kernel⟩
def d_History_first_columns : He.DefD := ⟨("History", some "first_columns"), "first_columns", "History.first_columns", defArgs s_History_first_columns, defBody s_History_first_columns, defScope s_History_first_columns, [], []⟩
abbrev s_History_columns : Stmt := inClass (top 48) 6
theorem sc_History_columns : FnScope ["self", "edition"] ["self", "edition"] (defScope s_History_columns) := ⟨rfl, rfl, rfl, by decide +kernel, rfl, by decide +kernel, by decide +kernel⟩
def d_History_columns : He.DefD := ⟨("History", some "columns"), "columns", "History.columns", defArgs s_History_columns, defBody s_History_columns, defScope s_History_columns, [.non], []⟩
abbrev s_History_changes_told : Stmt := inClass (top 48) 7
theorem sc_History_changes_told : FnScope ["self"] ["self"] (defScope s_History_changes_told) := ⟨rfl, rfl, rfl, by decide +kernel, rfl, by decide +kernel, by decide +kernel⟩
def d_History_changes_told : He.DefD := ⟨("History", some "changes_told"), "changes_told", "History.changes_told", defArgs s_History_changes_told, defBody s_History_changes_told, defScope s_History_changes_told, [], []⟩
abbrev s_History_column : Stmt := inClass (top 48) 8
theorem sc_History_column : FnScope ["self", "name", "edition", "found"] ["self", "name", "edition"] (defScope s_History_column) := ⟨rfl, rfl, rfl, by decide +kernel, rfl, by decide +kernel, by decide +kernel⟩
def d_History_column : He.DefD := ⟨("History", some "column"), "column", "History.column", defArgs s_History_column, defBody s_History_column, defScope s_History_column, [], [("edition", .non)]⟩
abbrev s_History_by_number : Stmt := inClass (top 48) 9
theorem sc_History_by_number : FnScope ["self", "number", "edition"] ["self", "number", "edition"] (defScope s_History_by_number) := ⟨rfl, rfl, rfl, by decide +kernel, rfl, by decide +kernel, by decide +kernel⟩
def d_History_by_number : He.DefD := ⟨("History", some "by_number"), "by_number", "History.by_number", defArgs s_History_by_number, defBody s_History_by_number, defScope s_History_by_number, [], [("edition", .non)]⟩
abbrev s_History_numbers : Stmt := inClass (top 48) 10
theorem sc_History_numbers : FnScope ["self"] ["self"] (defScope s_History_numbers) := ⟨rfl, rfl, rfl, by decide +kernel, rfl, by decide +kernel, by decide +kernel⟩
def d_History_numbers : He.DefD := ⟨("History", some "numbers"), "numbers", "History.numbers", defArgs s_History_numbers, defBody s_History_numbers, defScope s_History_numbers, [], []⟩
abbrev s_History_born : Stmt := inClass (top 48) 11
theorem sc_History_born : FnScope ["self", "number"] ["self", "number"] (defScope s_History_born) := ⟨rfl, rfl, rfl, by decide +kernel, rfl, by decide +kernel, by decide +kernel⟩
def d_History_born : He.DefD := ⟨("History", some "born"), "born", "History.born", defArgs s_History_born, defBody s_History_born, defScope s_History_born, [], []⟩
abbrev s_History_dropped : Stmt := inClass (top 48) 12
theorem sc_History_dropped : FnScope ["self", "number"] ["self", "number"] (defScope s_History_dropped) := ⟨rfl, rfl, rfl, by decide +kernel, rfl, by decide +kernel, by decide +kernel⟩
def d_History_dropped : He.DefD := ⟨("History", some "dropped"), "dropped", "History.dropped", defArgs s_History_dropped, defBody s_History_dropped, defScope s_History_dropped, [], []⟩
abbrev s_History_then : Stmt := inClass (top 48) 13
theorem sc_History_then : FnScope ["self", "change"] ["self", "change"] (defScope s_History_then) := ⟨rfl, rfl, rfl, by decide +kernel, rfl, by decide +kernel, by decide +kernel⟩
def d_History_then : He.DefD := ⟨("History", some "then"), "then", "History.then", defArgs s_History_then, defBody s_History_then, defScope s_History_then, [], []⟩
abbrev s_History_back : Stmt := inClass (top 48) 14
theorem sc_History_back : FnScope ["self"] ["self"] (defScope s_History_back) := ⟨rfl, rfl, rfl, by decide +kernel, rfl, by decide +kernel, by decide +kernel⟩
def d_History_back : He.DefD := ⟨("History", some "back"), "back", "History.back", defArgs s_History_back, defBody s_History_back, defScope s_History_back, [], []⟩
abbrev s_History_up_to : Stmt := inClass (top 48) 15
theorem sc_History_up_to : FnScope ["self", "edition"] ["self", "edition"] (defScope s_History_up_to) := ⟨rfl, rfl, rfl, by decide +kernel, rfl, by decide +kernel, by decide +kernel⟩
def d_History_up_to : He.DefD := ⟨("History", some "up_to"), "up_to", "History.up_to", defArgs s_History_up_to, defBody s_History_up_to, defScope s_History_up_to, [], []⟩
abbrev s_History_behind : Stmt := inClass (top 48) 16
theorem sc_History_behind : FnScope ["self", "edition"] ["self", "edition"] (defScope s_History_behind) := ⟨rfl, rfl, rfl, by decide +kernel, rfl, by decide +kernel, by decide +kernel⟩
def d_History_behind : He.DefD := ⟨("History", some "behind"), "behind", "History.behind", defArgs s_History_behind, defBody s_History_behind, defScope s_History_behind, [], []⟩
abbrev s_is_given : Stmt := top 49
theorem sc_is_given : FnScope ["history", "value"] ["history", "value"] (defScope s_is_given) := ⟨rfl, rfl, rfl, by decide +kernel, rfl, by decide +kernel, by decide +kernel⟩
def d_is_given : He.DefD := ⟨("is_given", none), "is_given", "is_given", defArgs s_is_given, defBody s_is_given, defScope s_is_given, [], []⟩
abbrev s__law_pool : Stmt := top 51
theorem sc__law_pool : FnScope ["_law_script", "_law_k", "_law_size", "_law_mixed"] ["_law_script", "_law_k"] (defScope s__law_pool) := ⟨rfl, rfl, rfl, by decide +kernel, rfl, by decide +kernel, by decide +kernel⟩
def d__law_pool : He.DefD := ⟨("_law_pool", none), "_law_pool", "_law_pool", defArgs s__law_pool, defBody s__law_pool, defScope s__law_pool, [], []⟩
abbrev s__law_draw : Stmt := top 52
theorem sc__law_draw : FnScope ["_law_pool_here", "_law_many", "_law_found"] ["_law_pool_here", "_law_many"] (defScope s__law_draw) := ⟨rfl, rfl, rfl, by decide +kernel, rfl, by decide +kernel, by decide +kernel⟩
def d__law_draw : He.DefD := ⟨("_law_draw", none), "_law_draw", "_law_draw", defArgs s__law_draw, defBody s__law_draw, defScope s__law_draw, [], []⟩
abbrev s__law_pick : Stmt := top 53
theorem sc__law_pick : FnScope ["_law_pool_here", "_law_row"] ["_law_pool_here", "_law_row"] (defScope s__law_pick) := ⟨rfl, rfl, rfl, by decide +kernel, rfl, by decide +kernel, by decide +kernel⟩
def d__law_pick : He.DefD := ⟨("_law_pick", none), "_law_pick", "_law_pick", defArgs s__law_pick, defBody s__law_pick, defScope s__law_pick, [], []⟩
abbrev s__law_value : Stmt := top 54
theorem sc__law_value : FnScope ["_law_pool_here", "_law_most"] ["_law_pool_here", "_law_most"] (defScope s__law_value) := ⟨rfl, rfl, rfl, by decide +kernel, rfl, by decide +kernel, by decide +kernel⟩
def d__law_value : He.DefD := ⟨("_law_value", none), "_law_value", "_law_value", defArgs s__law_value, defBody s__law_value, defScope s__law_value, [], []⟩
abbrev s__law_word : Stmt := top 55
theorem sc__law_word : FnScope ["_law_cols_here", "_law_change_here", "_law_col", "_law_names"] ["_law_cols_here", "_law_change_here"] (defScope s__law_word) := ⟨rfl, rfl, rfl, by decide +kernel, rfl, by decide +kernel, by decide +kernel⟩
def d__law_word : He.DefD := ⟨("_law_word", none), "_law_word", "_law_word", defArgs s__law_word, defBody s__law_word, defScope s__law_word, [], []⟩
abbrev s__law_cut : Stmt := top 56
theorem sc__law_cut : FnScope ["_law_value_here", "_law_change_here"] ["_law_value_here", "_law_change_here"] (defScope s__law_cut) := ⟨rfl, rfl, rfl, by decide +kernel, rfl, by decide +kernel, by decide +kernel⟩
def d__law_cut : He.DefD := ⟨("_law_cut", none), "_law_cut", "_law_cut", defArgs s__law_cut, defBody s__law_cut, defScope s__law_cut, [], []⟩
abbrev s__law_col_then : Stmt := top 57
theorem sc__law_col_then : FnScope ["_law_col", "_law_change_here", "_law_name", "_law_most", "_law_given", "_law_seat"] ["_law_col", "_law_change_here"] (defScope s__law_col_then) := ⟨rfl, rfl, rfl, by decide +kernel, rfl, by decide +kernel, by decide +kernel⟩
def d__law_col_then : He.DefD := ⟨("_law_col_then", none), "_law_col_then", "_law_col_then", defArgs s__law_col_then, defBody s__law_col_then, defScope s__law_col_then, [], []⟩
abbrev s__law_then : Stmt := top 58
theorem sc__law_then : FnScope ["_law_cols_here", "_law_change_here", "_law_seat", "_law_col"] ["_law_cols_here", "_law_change_here", "_law_seat"] (defScope s__law_then) := ⟨rfl, rfl, rfl, by decide +kernel, rfl, by decide +kernel, by decide +kernel⟩
def d__law_then : He.DefD := ⟨("_law_then", none), "_law_then", "_law_then", defArgs s__law_then, defBody s__law_then, defScope s__law_then, [], []⟩
abbrev s__law_change : Stmt := top 59
theorem sc__law_change : FnScope ["_law_pool_here", "_law_most", "_law_kind", "_law_name"] ["_law_pool_here", "_law_most"] (defScope s__law_change) := ⟨rfl, rfl, rfl, by decide +kernel, rfl, by decide +kernel, by decide +kernel⟩
def d__law_change : He.DefD := ⟨("_law_change", none), "_law_change", "_law_change", defArgs s__law_change, defBody s__law_change, defScope s__law_change, [], []⟩
abbrev s__law_first : Stmt := top 60
theorem sc__law_first : FnScope ["_law_pool_here", "_law_most", "_law_found", "_law_name", "_law_top"] ["_law_pool_here", "_law_most"] (defScope s__law_first) := ⟨rfl, rfl, rfl, by decide +kernel, rfl, by decide +kernel, by decide +kernel⟩
def d__law_first : He.DefD := ⟨("_law_first", none), "_law_first", "_law_first", defArgs s__law_first, defBody s__law_first, defScope s__law_first, [], []⟩
abbrev s__law_history : Stmt := top 61
theorem sc__law_history : FnScope ["_law_pool_here", "_law_many", "_law_most", "_law_h", "_law_turn", "_law_change_here"] ["_law_pool_here", "_law_many", "_law_most"] (defScope s__law_history) := ⟨rfl, rfl, rfl, by decide +kernel, rfl, by decide +kernel, by decide +kernel⟩
def d__law_history : He.DefD := ⟨("_law_history", none), "_law_history", "_law_history", defArgs s__law_history, defBody s__law_history, defScope s__law_history, [], []⟩
abbrev s__law_cols : Stmt := top 62
theorem sc__law_cols : FnScope ["_law_cols_here", "_law_col"] ["_law_cols_here"] (defScope s__law_cols) := ⟨rfl, rfl, rfl, by decide +kernel, rfl, by decide +kernel, by decide +kernel⟩
def d__law_cols : He.DefD := ⟨("_law_cols", none), "_law_cols", "_law_cols", defArgs s__law_cols, defBody s__law_cols, defScope s__law_cols, [], []⟩
abbrev s__law_made : Stmt := top 63
theorem sc__law_made : FnScope ["_law_h"] ["_law_h"] (defScope s__law_made) := ⟨rfl, rfl, rfl, by decide +kernel, rfl, by decide +kernel, by decide +kernel⟩
def d__law_made : He.DefD := ⟨("_law_made", none), "_law_made", "_law_made", defArgs s__law_made, defBody s__law_made, defScope s__law_made, [], []⟩
abbrev s__law_told : Stmt := top 64
theorem sc__law_told : FnScope ["_law_way", "_law_history_here", "_law_value_here", "_law_at", "e"] ["_law_way", "_law_history_here", "_law_value_here", "_law_at"] (defScope s__law_told) := ⟨rfl, rfl, rfl, by decide +kernel, rfl, by decide +kernel, by decide +kernel⟩
def d__law_told : He.DefD := ⟨("_law_told", none), "_law_told", "_law_told", defArgs s__law_told, defBody s__law_told, defScope s__law_told, [], []⟩
abbrev s__law_alive : Stmt := top 65
theorem sc__law_alive : FnScope ["_law_h", "_law_seat", "_law_at", "_law_col"] ["_law_h", "_law_seat"] (defScope s__law_alive) := ⟨rfl, rfl, rfl, by decide +kernel, rfl, by decide +kernel, by decide +kernel⟩
def d__law_alive : He.DefD := ⟨("_law_alive", none), "_law_alive", "_law_alive", defArgs s__law_alive, defBody s__law_alive, defScope s__law_alive, [], []⟩
abbrev s__law_one_right : Stmt := top 66
theorem sc__law_one_right : FnScope ["_law_h", "_law_history_here", "_law_at", "_law_seat", "_law_cols_here", "_law_name", "_law_odd", "_law_col"] ["_law_h", "_law_history_here", "_law_at"] (defScope s__law_one_right) := ⟨rfl, rfl, rfl, by decide +kernel, rfl, by decide +kernel, by decide +kernel⟩
def d__law_one_right : He.DefD := ⟨("_law_one_right", none), "_law_one_right", "_law_one_right", defArgs s__law_one_right, defBody s__law_one_right, defScope s__law_one_right, [], []⟩
abbrev s_law : Stmt := top 67
theorem sc_law : FnScope ["_law_script", "_law_k", "_law_pool_here", "_law_h", "_law_history_here", "_law_last", "_law_seat", "_law_there", "_law_due", "_law_at", "_law_odd"] ["_law_script"] (defScope s_law) := ⟨rfl, rfl, rfl, by decide +kernel, rfl, by decide +kernel, by decide +kernel⟩
def d_law : He.DefD := ⟨("law", none), "law", "law", defArgs s_law, defBody s_law, defScope s_law, [], []⟩
def fn0 : List He.DefD := [d_BadColumn___init__, d_BadPart___init__, d_BadEdition___init__, d_UnknownName___init__, d_is_whole, d_is_list, d_is_word, d_is_name, d_is_greatest, d_is_value, d_is_within, d_Column___init__, d_Column___eq__, d_Column___contains__, d_Column_changed, d_column_named, d_column_numbered, d_is_change, d_has_parts, d_is_single_part, d_is_way, d_kind_of, d_hindrance, d_add_hindrance, d_columns_behind, d_changed_column, d_changed_value, d_value_above, d_is_edition, d_edition_of, d_numbered_columns, d_columns_of_editions, d_births, d_drops, d_History___init__, d_History___len__, d_History___getitem__, d_History_columns, d_History_column, d_History_by_number, d_History_numbers, d_History_born, d_History_dropped, d_History_behind, d_is_given, d__law_pool, d__law_draw, d__law_pick, d__law_value, d__law_word, d__law_cut, d__law_col_then, d__law_then, d__law_change, d__law_first, d__law_history, d__law_cols, d__law_made, d__law_told, d__law_alive, d__law_one_right, d_law]
def fa0 : List He.Fa := [.glo "is_whole", .glo "is_list", .glo "is_word", .glo "is_name", .glo "is_greatest", .glo "is_value", .glo "is_within", .glo "column_named", .glo "column_numbered", .glo "is_change", .glo "has_parts", .glo "is_single_part", .glo "is_way", .glo "kind_of", .glo "hindrance", .glo "add_hindrance", .glo "columns_behind", .glo "changed_column", .glo "changed_value", .glo "value_above", .glo "is_edition", .glo "edition_of", .glo "numbered_columns", .glo "columns_of_editions", .glo "births", .glo "drops", .glo "is_given", .glo "_law_pool", .glo "_law_draw", .glo "_law_pick", .glo "_law_value", .glo "_law_word", .glo "_law_cut", .glo "_law_col_then", .glo "_law_then", .glo "_law_change", .glo "_law_first", .glo "_law_history", .glo "_law_cols", .glo "_law_made", .glo "_law_told", .glo "_law_alive", .glo "_law_one_right", .glo "law", .glo "BadColumn", .glo "BadPart", .glo "BadEdition", .glo "UnknownName", .glo "Column", .cls "Column", .mkr "Column", .noat "Column" "name", .noat "Column" "greatest", .noat "Column" "default", .noat "Column" "number", .meth "Column" "__eq__", .meth "Column" "changed", .glo "History", .cls "History", .mkr "History", .noat "History" "_editions", .noat "History" "_changes", .noat "History" "_births", .noat "History" "_drops", .meth "History" "__len__", .meth "History" "columns", .meth "History" "column", .meth "History" "by_number", .meth "History" "numbers", .meth "History" "born", .meth "History" "dropped", .str "MISSING" "missing", .str "LETTERS" "abcdefghijklmnopqrstuvwxyz", .int "LONGEST_NAME" 8, .int "MOST_GREATEST" 99, .glo "PARTS", .glo "WAYS", .int "MOST_COLUMNS" 6, .int "MOST_CHANGES" 40, .free "isinstance", .free "int", .free "bool", .free "list", .free "tuple", .free "str", .free "all", .free "len", .free "enumerate", .free "range", .free "max", .free "repr", .free "min"]
def fnl : List He.DefD := fn0
def fal : List He.Fa := fa0
def exl (K : PySem.W.Frag) : Bool := [He.tupB K "PARTS" [(.str "name"), (.str "greatest"), (.str "default"), (.str "number")], He.tupB K "WAYS" [(.str "cut"), (.str "none"), (.str "refuse")], oexB K "BadColumn" "index", oexB K "BadPart" "part", oexB K "BadEdition" "edition", exnB K "BadEdition" "BadColumn", oegB K "UnknownName" "name", exnB K "UnknownName" "BadColumn", exnB K "UnknownName" "BadEdition", insB K "Column", neB K "Column"].all id
structure Tx (K : PySem.W.Frag) (mg : Str → Option Value) : Prop where
  c : He.SaysD fal fnl K
  e : exl K = true
  h : ∃ h : Heap, K.In h ∧ h.Ns mainGlobals mg
section
variable {K : PySem.W.Frag} {mg : Str → Option Value}
theorem mg_is_whole (T : Tx K mg) : mg "is_whole" = some (.ref (He.ga K "is_whole")) := by
  obtain ⟨h, X, G⟩ := T.h
  exact He.glo_ok X G (T.c.fact 0 rfl)
theorem mg_is_list (T : Tx K mg) : mg "is_list" = some (.ref (He.ga K "is_list")) := by
  obtain ⟨h, X, G⟩ := T.h
  exact He.glo_ok X G (T.c.fact 1 rfl)
theorem mg_is_word (T : Tx K mg) : mg "is_word" = some (.ref (He.ga K "is_word")) := by
  obtain ⟨h, X, G⟩ := T.h
  exact He.glo_ok X G (T.c.fact 2 rfl)
theorem mg_is_name (T : Tx K mg) : mg "is_name" = some (.ref (He.ga K "is_name")) := by
  obtain ⟨h, X, G⟩ := T.h
  exact He.glo_ok X G (T.c.fact 3 rfl)
theorem mg_is_greatest (T : Tx K mg) : mg "is_greatest" = some (.ref (He.ga K "is_greatest")) := by
  obtain ⟨h, X, G⟩ := T.h
  exact He.glo_ok X G (T.c.fact 4 rfl)
theorem mg_is_value (T : Tx K mg) : mg "is_value" = some (.ref (He.ga K "is_value")) := by
  obtain ⟨h, X, G⟩ := T.h
  exact He.glo_ok X G (T.c.fact 5 rfl)
theorem mg_is_within (T : Tx K mg) : mg "is_within" = some (.ref (He.ga K "is_within")) := by
  obtain ⟨h, X, G⟩ := T.h
  exact He.glo_ok X G (T.c.fact 6 rfl)
theorem mg_column_named (T : Tx K mg) : mg "column_named" = some (.ref (He.ga K "column_named")) := by
  obtain ⟨h, X, G⟩ := T.h
  exact He.glo_ok X G (T.c.fact 7 rfl)
theorem mg_column_numbered (T : Tx K mg) : mg "column_numbered" = some (.ref (He.ga K "column_numbered")) := by
  obtain ⟨h, X, G⟩ := T.h
  exact He.glo_ok X G (T.c.fact 8 rfl)
theorem mg_is_change (T : Tx K mg) : mg "is_change" = some (.ref (He.ga K "is_change")) := by
  obtain ⟨h, X, G⟩ := T.h
  exact He.glo_ok X G (T.c.fact 9 rfl)
theorem mg_has_parts (T : Tx K mg) : mg "has_parts" = some (.ref (He.ga K "has_parts")) := by
  obtain ⟨h, X, G⟩ := T.h
  exact He.glo_ok X G (T.c.fact 10 rfl)
theorem mg_is_single_part (T : Tx K mg) : mg "is_single_part" = some (.ref (He.ga K "is_single_part")) := by
  obtain ⟨h, X, G⟩ := T.h
  exact He.glo_ok X G (T.c.fact 11 rfl)
theorem mg_is_way (T : Tx K mg) : mg "is_way" = some (.ref (He.ga K "is_way")) := by
  obtain ⟨h, X, G⟩ := T.h
  exact He.glo_ok X G (T.c.fact 12 rfl)
theorem mg_kind_of (T : Tx K mg) : mg "kind_of" = some (.ref (He.ga K "kind_of")) := by
  obtain ⟨h, X, G⟩ := T.h
  exact He.glo_ok X G (T.c.fact 13 rfl)
theorem mg_hindrance (T : Tx K mg) : mg "hindrance" = some (.ref (He.ga K "hindrance")) := by
  obtain ⟨h, X, G⟩ := T.h
  exact He.glo_ok X G (T.c.fact 14 rfl)
theorem mg_add_hindrance (T : Tx K mg) : mg "add_hindrance" = some (.ref (He.ga K "add_hindrance")) := by
  obtain ⟨h, X, G⟩ := T.h
  exact He.glo_ok X G (T.c.fact 15 rfl)
theorem mg_columns_behind (T : Tx K mg) : mg "columns_behind" = some (.ref (He.ga K "columns_behind")) := by
  obtain ⟨h, X, G⟩ := T.h
  exact He.glo_ok X G (T.c.fact 16 rfl)
theorem mg_changed_column (T : Tx K mg) : mg "changed_column" = some (.ref (He.ga K "changed_column")) := by
  obtain ⟨h, X, G⟩ := T.h
  exact He.glo_ok X G (T.c.fact 17 rfl)
theorem mg_changed_value (T : Tx K mg) : mg "changed_value" = some (.ref (He.ga K "changed_value")) := by
  obtain ⟨h, X, G⟩ := T.h
  exact He.glo_ok X G (T.c.fact 18 rfl)
theorem mg_value_above (T : Tx K mg) : mg "value_above" = some (.ref (He.ga K "value_above")) := by
  obtain ⟨h, X, G⟩ := T.h
  exact He.glo_ok X G (T.c.fact 19 rfl)
theorem mg_is_edition (T : Tx K mg) : mg "is_edition" = some (.ref (He.ga K "is_edition")) := by
  obtain ⟨h, X, G⟩ := T.h
  exact He.glo_ok X G (T.c.fact 20 rfl)
theorem mg_edition_of (T : Tx K mg) : mg "edition_of" = some (.ref (He.ga K "edition_of")) := by
  obtain ⟨h, X, G⟩ := T.h
  exact He.glo_ok X G (T.c.fact 21 rfl)
theorem mg_numbered_columns (T : Tx K mg) : mg "numbered_columns" = some (.ref (He.ga K "numbered_columns")) := by
  obtain ⟨h, X, G⟩ := T.h
  exact He.glo_ok X G (T.c.fact 22 rfl)
theorem mg_columns_of_editions (T : Tx K mg) : mg "columns_of_editions" = some (.ref (He.ga K "columns_of_editions")) := by
  obtain ⟨h, X, G⟩ := T.h
  exact He.glo_ok X G (T.c.fact 23 rfl)
theorem mg_births (T : Tx K mg) : mg "births" = some (.ref (He.ga K "births")) := by
  obtain ⟨h, X, G⟩ := T.h
  exact He.glo_ok X G (T.c.fact 24 rfl)
theorem mg_drops (T : Tx K mg) : mg "drops" = some (.ref (He.ga K "drops")) := by
  obtain ⟨h, X, G⟩ := T.h
  exact He.glo_ok X G (T.c.fact 25 rfl)
theorem mg_is_given (T : Tx K mg) : mg "is_given" = some (.ref (He.ga K "is_given")) := by
  obtain ⟨h, X, G⟩ := T.h
  exact He.glo_ok X G (T.c.fact 26 rfl)
theorem mg__law_pool (T : Tx K mg) : mg "_law_pool" = some (.ref (He.ga K "_law_pool")) := by
  obtain ⟨h, X, G⟩ := T.h
  exact He.glo_ok X G (T.c.fact 27 rfl)
theorem mg__law_draw (T : Tx K mg) : mg "_law_draw" = some (.ref (He.ga K "_law_draw")) := by
  obtain ⟨h, X, G⟩ := T.h
  exact He.glo_ok X G (T.c.fact 28 rfl)
theorem mg__law_pick (T : Tx K mg) : mg "_law_pick" = some (.ref (He.ga K "_law_pick")) := by
  obtain ⟨h, X, G⟩ := T.h
  exact He.glo_ok X G (T.c.fact 29 rfl)
theorem mg__law_value (T : Tx K mg) : mg "_law_value" = some (.ref (He.ga K "_law_value")) := by
  obtain ⟨h, X, G⟩ := T.h
  exact He.glo_ok X G (T.c.fact 30 rfl)
theorem mg__law_word (T : Tx K mg) : mg "_law_word" = some (.ref (He.ga K "_law_word")) := by
  obtain ⟨h, X, G⟩ := T.h
  exact He.glo_ok X G (T.c.fact 31 rfl)
theorem mg__law_cut (T : Tx K mg) : mg "_law_cut" = some (.ref (He.ga K "_law_cut")) := by
  obtain ⟨h, X, G⟩ := T.h
  exact He.glo_ok X G (T.c.fact 32 rfl)
theorem mg__law_col_then (T : Tx K mg) : mg "_law_col_then" = some (.ref (He.ga K "_law_col_then")) := by
  obtain ⟨h, X, G⟩ := T.h
  exact He.glo_ok X G (T.c.fact 33 rfl)
theorem mg__law_then (T : Tx K mg) : mg "_law_then" = some (.ref (He.ga K "_law_then")) := by
  obtain ⟨h, X, G⟩ := T.h
  exact He.glo_ok X G (T.c.fact 34 rfl)
theorem mg__law_change (T : Tx K mg) : mg "_law_change" = some (.ref (He.ga K "_law_change")) := by
  obtain ⟨h, X, G⟩ := T.h
  exact He.glo_ok X G (T.c.fact 35 rfl)
theorem mg__law_first (T : Tx K mg) : mg "_law_first" = some (.ref (He.ga K "_law_first")) := by
  obtain ⟨h, X, G⟩ := T.h
  exact He.glo_ok X G (T.c.fact 36 rfl)
theorem mg__law_history (T : Tx K mg) : mg "_law_history" = some (.ref (He.ga K "_law_history")) := by
  obtain ⟨h, X, G⟩ := T.h
  exact He.glo_ok X G (T.c.fact 37 rfl)
theorem mg__law_cols (T : Tx K mg) : mg "_law_cols" = some (.ref (He.ga K "_law_cols")) := by
  obtain ⟨h, X, G⟩ := T.h
  exact He.glo_ok X G (T.c.fact 38 rfl)
theorem mg__law_made (T : Tx K mg) : mg "_law_made" = some (.ref (He.ga K "_law_made")) := by
  obtain ⟨h, X, G⟩ := T.h
  exact He.glo_ok X G (T.c.fact 39 rfl)
theorem mg__law_told (T : Tx K mg) : mg "_law_told" = some (.ref (He.ga K "_law_told")) := by
  obtain ⟨h, X, G⟩ := T.h
  exact He.glo_ok X G (T.c.fact 40 rfl)
theorem mg__law_alive (T : Tx K mg) : mg "_law_alive" = some (.ref (He.ga K "_law_alive")) := by
  obtain ⟨h, X, G⟩ := T.h
  exact He.glo_ok X G (T.c.fact 41 rfl)
theorem mg__law_one_right (T : Tx K mg) : mg "_law_one_right" = some (.ref (He.ga K "_law_one_right")) := by
  obtain ⟨h, X, G⟩ := T.h
  exact He.glo_ok X G (T.c.fact 42 rfl)
theorem mg_law (T : Tx K mg) : mg "law" = some (.ref (He.ga K "law")) := by
  obtain ⟨h, X, G⟩ := T.h
  exact He.glo_ok X G (T.c.fact 43 rfl)
theorem mg_BadColumn (T : Tx K mg) : mg "BadColumn" = some (.ref (He.ga K "BadColumn")) := by
  obtain ⟨h, X, G⟩ := T.h
  exact He.glo_ok X G (T.c.fact 44 rfl)
theorem mg_BadPart (T : Tx K mg) : mg "BadPart" = some (.ref (He.ga K "BadPart")) := by
  obtain ⟨h, X, G⟩ := T.h
  exact He.glo_ok X G (T.c.fact 45 rfl)
theorem mg_BadEdition (T : Tx K mg) : mg "BadEdition" = some (.ref (He.ga K "BadEdition")) := by
  obtain ⟨h, X, G⟩ := T.h
  exact He.glo_ok X G (T.c.fact 46 rfl)
theorem mg_UnknownName (T : Tx K mg) : mg "UnknownName" = some (.ref (He.ga K "UnknownName")) := by
  obtain ⟨h, X, G⟩ := T.h
  exact He.glo_ok X G (T.c.fact 47 rfl)
theorem mg_Column (T : Tx K mg) : mg "Column" = some (.ref (He.ga K "Column")) := by
  obtain ⟨h, X, G⟩ := T.h
  exact He.glo_ok X G (T.c.fact 48 rfl)
theorem cl_Column (T : Tx K mg) : Cls K (He.ga K "Column") := He.cls_ok (T.c.fact 49 rfl)
theorem mk_Column (T : Tx K mg) : Mk K (He.ga K "Column") (He.ma K (He.ga K "Column") "__init__") := He.mkr_ok (T.c.fact 50 rfl)
theorem na_Column_name (T : Tx K mg) : NoAttr K (He.ga K "Column") "name" := He.noat_ok (T.c.fact 51 rfl)
theorem na_Column_greatest (T : Tx K mg) : NoAttr K (He.ga K "Column") "greatest" := He.noat_ok (T.c.fact 52 rfl)
theorem na_Column_default (T : Tx K mg) : NoAttr K (He.ga K "Column") "default" := He.noat_ok (T.c.fact 53 rfl)
theorem na_Column_number (T : Tx K mg) : NoAttr K (He.ga K "Column") "number" := He.noat_ok (T.c.fact 54 rfl)
theorem me_Column___eq__ (T : Tx K mg) : Meth K (He.ga K "Column") "__eq__" (He.ma K (He.ga K "Column") "__eq__") := He.meth_ok (T.c.fact 55 rfl)
theorem me_Column_changed (T : Tx K mg) : Meth K (He.ga K "Column") "changed" (He.ma K (He.ga K "Column") "changed") := He.meth_ok (T.c.fact 56 rfl)
theorem mg_History (T : Tx K mg) : mg "History" = some (.ref (He.ga K "History")) := by
  obtain ⟨h, X, G⟩ := T.h
  exact He.glo_ok X G (T.c.fact 57 rfl)
theorem cl_History (T : Tx K mg) : Cls K (He.ga K "History") := He.cls_ok (T.c.fact 58 rfl)
theorem mk_History (T : Tx K mg) : Mk K (He.ga K "History") (He.ma K (He.ga K "History") "__init__") := He.mkr_ok (T.c.fact 59 rfl)
theorem na_History__editions (T : Tx K mg) : NoAttr K (He.ga K "History") "_editions" := He.noat_ok (T.c.fact 60 rfl)
theorem na_History__changes (T : Tx K mg) : NoAttr K (He.ga K "History") "_changes" := He.noat_ok (T.c.fact 61 rfl)
theorem na_History__births (T : Tx K mg) : NoAttr K (He.ga K "History") "_births" := He.noat_ok (T.c.fact 62 rfl)
theorem na_History__drops (T : Tx K mg) : NoAttr K (He.ga K "History") "_drops" := He.noat_ok (T.c.fact 63 rfl)
theorem me_History___len__ (T : Tx K mg) : Meth K (He.ga K "History") "__len__" (He.ma K (He.ga K "History") "__len__") := He.meth_ok (T.c.fact 64 rfl)
theorem me_History_columns (T : Tx K mg) : Meth K (He.ga K "History") "columns" (He.ma K (He.ga K "History") "columns") := He.meth_ok (T.c.fact 65 rfl)
theorem me_History_column (T : Tx K mg) : Meth K (He.ga K "History") "column" (He.ma K (He.ga K "History") "column") := He.meth_ok (T.c.fact 66 rfl)
theorem me_History_by_number (T : Tx K mg) : Meth K (He.ga K "History") "by_number" (He.ma K (He.ga K "History") "by_number") := He.meth_ok (T.c.fact 67 rfl)
theorem me_History_numbers (T : Tx K mg) : Meth K (He.ga K "History") "numbers" (He.ma K (He.ga K "History") "numbers") := He.meth_ok (T.c.fact 68 rfl)
theorem me_History_born (T : Tx K mg) : Meth K (He.ga K "History") "born" (He.ma K (He.ga K "History") "born") := He.meth_ok (T.c.fact 69 rfl)
theorem me_History_dropped (T : Tx K mg) : Meth K (He.ga K "History") "dropped" (He.ma K (He.ga K "History") "dropped") := He.meth_ok (T.c.fact 70 rfl)
theorem ms_MISSING (T : Tx K mg) : ∃ t, mg "MISSING" = some (.str "missing" t) := by
  obtain ⟨h, X, G⟩ := T.h
  exact He.str_ok X G (T.c.fact 71 rfl)
theorem ms_LETTERS (T : Tx K mg) : ∃ t, mg "LETTERS" = some (.str "abcdefghijklmnopqrstuvwxyz" t) := by
  obtain ⟨h, X, G⟩ := T.h
  exact He.str_ok X G (T.c.fact 72 rfl)
theorem mi_LONGEST_NAME (T : Tx K mg) : ∃ t, mg "LONGEST_NAME" = some (.int 8 t) := by
  obtain ⟨h, X, G⟩ := T.h
  exact He.int_ok X G (T.c.fact 73 rfl)
theorem mi_MOST_GREATEST (T : Tx K mg) : ∃ t, mg "MOST_GREATEST" = some (.int 99 t) := by
  obtain ⟨h, X, G⟩ := T.h
  exact He.int_ok X G (T.c.fact 74 rfl)
theorem mg_PARTS (T : Tx K mg) : mg "PARTS" = some (.ref (He.ga K "PARTS")) := by
  obtain ⟨h, X, G⟩ := T.h
  exact He.glo_ok X G (T.c.fact 75 rfl)
theorem mg_WAYS (T : Tx K mg) : mg "WAYS" = some (.ref (He.ga K "WAYS")) := by
  obtain ⟨h, X, G⟩ := T.h
  exact He.glo_ok X G (T.c.fact 76 rfl)
theorem mi_MOST_COLUMNS (T : Tx K mg) : ∃ t, mg "MOST_COLUMNS" = some (.int 6 t) := by
  obtain ⟨h, X, G⟩ := T.h
  exact He.int_ok X G (T.c.fact 77 rfl)
theorem mi_MOST_CHANGES (T : Tx K mg) : ∃ t, mg "MOST_CHANGES" = some (.int 40 t) := by
  obtain ⟨h, X, G⟩ := T.h
  exact He.int_ok X G (T.c.fact 78 rfl)
theorem fr_isinstance (T : Tx K mg) : mg "isinstance" = none := by
  obtain ⟨h, X, G⟩ := T.h
  exact He.free_ok X G (T.c.fact 79 rfl)
theorem fr_int (T : Tx K mg) : mg "int" = none := by
  obtain ⟨h, X, G⟩ := T.h
  exact He.free_ok X G (T.c.fact 80 rfl)
theorem fr_bool (T : Tx K mg) : mg "bool" = none := by
  obtain ⟨h, X, G⟩ := T.h
  exact He.free_ok X G (T.c.fact 81 rfl)
theorem fr_list (T : Tx K mg) : mg "list" = none := by
  obtain ⟨h, X, G⟩ := T.h
  exact He.free_ok X G (T.c.fact 82 rfl)
theorem fr_tuple (T : Tx K mg) : mg "tuple" = none := by
  obtain ⟨h, X, G⟩ := T.h
  exact He.free_ok X G (T.c.fact 83 rfl)
theorem fr_str (T : Tx K mg) : mg "str" = none := by
  obtain ⟨h, X, G⟩ := T.h
  exact He.free_ok X G (T.c.fact 84 rfl)
theorem fr_all (T : Tx K mg) : mg "all" = none := by
  obtain ⟨h, X, G⟩ := T.h
  exact He.free_ok X G (T.c.fact 85 rfl)
theorem fr_len (T : Tx K mg) : mg "len" = none := by
  obtain ⟨h, X, G⟩ := T.h
  exact He.free_ok X G (T.c.fact 86 rfl)
theorem fr_enumerate (T : Tx K mg) : mg "enumerate" = none := by
  obtain ⟨h, X, G⟩ := T.h
  exact He.free_ok X G (T.c.fact 87 rfl)
theorem fr_range (T : Tx K mg) : mg "range" = none := by
  obtain ⟨h, X, G⟩ := T.h
  exact He.free_ok X G (T.c.fact 88 rfl)
theorem fr_max (T : Tx K mg) : mg "max" = none := by
  obtain ⟨h, X, G⟩ := T.h
  exact He.free_ok X G (T.c.fact 89 rfl)
theorem fr_repr (T : Tx K mg) : mg "repr" = none := by
  obtain ⟨h, X, G⟩ := T.h
  exact He.free_ok X G (T.c.fact 90 rfl)
theorem fr_min (T : Tx K mg) : mg "min" = none := by
  obtain ⟨h, X, G⟩ := T.h
  exact He.free_ok X G (T.c.fact 91 rfl)
theorem fd_BadColumn___init__ (T : Tx K mg) : ∃ fd, FunD K "__init__" "BadColumn.__init__" (defArgs s_BadColumn___init__) (defBody s_BadColumn___init__) (defScope s_BadColumn___init__) (d_BadColumn___init__.dvs K) (d_BadColumn___init__.kws K) (He.ma K (He.ga K "BadColumn") "__init__") fd := T.c.def_ 0 (d := d_BadColumn___init__) rfl
theorem fd_BadPart___init__ (T : Tx K mg) : ∃ fd, FunD K "__init__" "BadPart.__init__" (defArgs s_BadPart___init__) (defBody s_BadPart___init__) (defScope s_BadPart___init__) (d_BadPart___init__.dvs K) (d_BadPart___init__.kws K) (He.ma K (He.ga K "BadPart") "__init__") fd := T.c.def_ 1 (d := d_BadPart___init__) rfl
theorem fd_BadEdition___init__ (T : Tx K mg) : ∃ fd, FunD K "__init__" "BadEdition.__init__" (defArgs s_BadEdition___init__) (defBody s_BadEdition___init__) (defScope s_BadEdition___init__) (d_BadEdition___init__.dvs K) (d_BadEdition___init__.kws K) (He.ma K (He.ga K "BadEdition") "__init__") fd := T.c.def_ 2 (d := d_BadEdition___init__) rfl
theorem fd_UnknownName___init__ (T : Tx K mg) : ∃ fd, FunD K "__init__" "UnknownName.__init__" (defArgs s_UnknownName___init__) (defBody s_UnknownName___init__) (defScope s_UnknownName___init__) (d_UnknownName___init__.dvs K) (d_UnknownName___init__.kws K) (He.ma K (He.ga K "UnknownName") "__init__") fd := T.c.def_ 3 (d := d_UnknownName___init__) rfl
theorem fd_is_whole (T : Tx K mg) : ∃ fd, FunD K "is_whole" "is_whole" (defArgs s_is_whole) (defBody s_is_whole) (defScope s_is_whole) (d_is_whole.dvs K) (d_is_whole.kws K) (He.ga K "is_whole") fd := T.c.def_ 4 (d := d_is_whole) rfl
theorem fd_is_list (T : Tx K mg) : ∃ fd, FunD K "is_list" "is_list" (defArgs s_is_list) (defBody s_is_list) (defScope s_is_list) (d_is_list.dvs K) (d_is_list.kws K) (He.ga K "is_list") fd := T.c.def_ 5 (d := d_is_list) rfl
theorem fd_is_word (T : Tx K mg) : ∃ fd, FunD K "is_word" "is_word" (defArgs s_is_word) (defBody s_is_word) (defScope s_is_word) (d_is_word.dvs K) (d_is_word.kws K) (He.ga K "is_word") fd := T.c.def_ 6 (d := d_is_word) rfl
theorem fd_is_name (T : Tx K mg) : ∃ fd, FunD K "is_name" "is_name" (defArgs s_is_name) (defBody s_is_name) (defScope s_is_name) (d_is_name.dvs K) (d_is_name.kws K) (He.ga K "is_name") fd := T.c.def_ 7 (d := d_is_name) rfl
theorem fd_is_greatest (T : Tx K mg) : ∃ fd, FunD K "is_greatest" "is_greatest" (defArgs s_is_greatest) (defBody s_is_greatest) (defScope s_is_greatest) (d_is_greatest.dvs K) (d_is_greatest.kws K) (He.ga K "is_greatest") fd := T.c.def_ 8 (d := d_is_greatest) rfl
theorem fd_is_value (T : Tx K mg) : ∃ fd, FunD K "is_value" "is_value" (defArgs s_is_value) (defBody s_is_value) (defScope s_is_value) (d_is_value.dvs K) (d_is_value.kws K) (He.ga K "is_value") fd := T.c.def_ 9 (d := d_is_value) rfl
theorem fd_is_within (T : Tx K mg) : ∃ fd, FunD K "is_within" "is_within" (defArgs s_is_within) (defBody s_is_within) (defScope s_is_within) (d_is_within.dvs K) (d_is_within.kws K) (He.ga K "is_within") fd := T.c.def_ 10 (d := d_is_within) rfl
theorem fd_Column___init__ (T : Tx K mg) : ∃ fd, FunD K "__init__" "Column.__init__" (defArgs s_Column___init__) (defBody s_Column___init__) (defScope s_Column___init__) (d_Column___init__.dvs K) (d_Column___init__.kws K) (He.ma K (He.ga K "Column") "__init__") fd := T.c.def_ 11 (d := d_Column___init__) rfl
theorem fd_Column___eq__ (T : Tx K mg) : ∃ fd, FunD K "__eq__" "Column.__eq__" (defArgs s_Column___eq__) (defBody s_Column___eq__) (defScope s_Column___eq__) (d_Column___eq__.dvs K) (d_Column___eq__.kws K) (He.ma K (He.ga K "Column") "__eq__") fd := T.c.def_ 12 (d := d_Column___eq__) rfl
theorem fd_Column___contains__ (T : Tx K mg) : ∃ fd, FunD K "__contains__" "Column.__contains__" (defArgs s_Column___contains__) (defBody s_Column___contains__) (defScope s_Column___contains__) (d_Column___contains__.dvs K) (d_Column___contains__.kws K) (He.ma K (He.ga K "Column") "__contains__") fd := T.c.def_ 13 (d := d_Column___contains__) rfl
theorem fd_Column_changed (T : Tx K mg) : ∃ fd, FunD K "changed" "Column.changed" (defArgs s_Column_changed) (defBody s_Column_changed) (defScope s_Column_changed) (d_Column_changed.dvs K) (d_Column_changed.kws K) (He.ma K (He.ga K "Column") "changed") fd := T.c.def_ 14 (d := d_Column_changed) rfl
theorem fd_column_named (T : Tx K mg) : ∃ fd, FunD K "column_named" "column_named" (defArgs s_column_named) (defBody s_column_named) (defScope s_column_named) (d_column_named.dvs K) (d_column_named.kws K) (He.ga K "column_named") fd := T.c.def_ 15 (d := d_column_named) rfl
theorem fd_column_numbered (T : Tx K mg) : ∃ fd, FunD K "column_numbered" "column_numbered" (defArgs s_column_numbered) (defBody s_column_numbered) (defScope s_column_numbered) (d_column_numbered.dvs K) (d_column_numbered.kws K) (He.ga K "column_numbered") fd := T.c.def_ 16 (d := d_column_numbered) rfl
theorem fd_is_change (T : Tx K mg) : ∃ fd, FunD K "is_change" "is_change" (defArgs s_is_change) (defBody s_is_change) (defScope s_is_change) (d_is_change.dvs K) (d_is_change.kws K) (He.ga K "is_change") fd := T.c.def_ 17 (d := d_is_change) rfl
theorem fd_has_parts (T : Tx K mg) : ∃ fd, FunD K "has_parts" "has_parts" (defArgs s_has_parts) (defBody s_has_parts) (defScope s_has_parts) (d_has_parts.dvs K) (d_has_parts.kws K) (He.ga K "has_parts") fd := T.c.def_ 18 (d := d_has_parts) rfl
theorem fd_is_single_part (T : Tx K mg) : ∃ fd, FunD K "is_single_part" "is_single_part" (defArgs s_is_single_part) (defBody s_is_single_part) (defScope s_is_single_part) (d_is_single_part.dvs K) (d_is_single_part.kws K) (He.ga K "is_single_part") fd := T.c.def_ 19 (d := d_is_single_part) rfl
theorem fd_is_way (T : Tx K mg) : ∃ fd, FunD K "is_way" "is_way" (defArgs s_is_way) (defBody s_is_way) (defScope s_is_way) (d_is_way.dvs K) (d_is_way.kws K) (He.ga K "is_way") fd := T.c.def_ 20 (d := d_is_way) rfl
theorem fd_kind_of (T : Tx K mg) : ∃ fd, FunD K "kind_of" "kind_of" (defArgs s_kind_of) (defBody s_kind_of) (defScope s_kind_of) (d_kind_of.dvs K) (d_kind_of.kws K) (He.ga K "kind_of") fd := T.c.def_ 21 (d := d_kind_of) rfl
theorem fd_hindrance (T : Tx K mg) : ∃ fd, FunD K "hindrance" "hindrance" (defArgs s_hindrance) (defBody s_hindrance) (defScope s_hindrance) (d_hindrance.dvs K) (d_hindrance.kws K) (He.ga K "hindrance") fd := T.c.def_ 22 (d := d_hindrance) rfl
theorem fd_add_hindrance (T : Tx K mg) : ∃ fd, FunD K "add_hindrance" "add_hindrance" (defArgs s_add_hindrance) (defBody s_add_hindrance) (defScope s_add_hindrance) (d_add_hindrance.dvs K) (d_add_hindrance.kws K) (He.ga K "add_hindrance") fd := T.c.def_ 23 (d := d_add_hindrance) rfl
theorem fd_columns_behind (T : Tx K mg) : ∃ fd, FunD K "columns_behind" "columns_behind" (defArgs s_columns_behind) (defBody s_columns_behind) (defScope s_columns_behind) (d_columns_behind.dvs K) (d_columns_behind.kws K) (He.ga K "columns_behind") fd := T.c.def_ 24 (d := d_columns_behind) rfl
theorem fd_changed_column (T : Tx K mg) : ∃ fd, FunD K "changed_column" "changed_column" (defArgs s_changed_column) (defBody s_changed_column) (defScope s_changed_column) (d_changed_column.dvs K) (d_changed_column.kws K) (He.ga K "changed_column") fd := T.c.def_ 25 (d := d_changed_column) rfl
theorem fd_changed_value (T : Tx K mg) : ∃ fd, FunD K "changed_value" "changed_value" (defArgs s_changed_value) (defBody s_changed_value) (defScope s_changed_value) (d_changed_value.dvs K) (d_changed_value.kws K) (He.ga K "changed_value") fd := T.c.def_ 26 (d := d_changed_value) rfl
theorem fd_value_above (T : Tx K mg) : ∃ fd, FunD K "value_above" "value_above" (defArgs s_value_above) (defBody s_value_above) (defScope s_value_above) (d_value_above.dvs K) (d_value_above.kws K) (He.ga K "value_above") fd := T.c.def_ 27 (d := d_value_above) rfl
theorem fd_is_edition (T : Tx K mg) : ∃ fd, FunD K "is_edition" "is_edition" (defArgs s_is_edition) (defBody s_is_edition) (defScope s_is_edition) (d_is_edition.dvs K) (d_is_edition.kws K) (He.ga K "is_edition") fd := T.c.def_ 28 (d := d_is_edition) rfl
theorem fd_edition_of (T : Tx K mg) : ∃ fd, FunD K "edition_of" "edition_of" (defArgs s_edition_of) (defBody s_edition_of) (defScope s_edition_of) (d_edition_of.dvs K) (d_edition_of.kws K) (He.ga K "edition_of") fd := T.c.def_ 29 (d := d_edition_of) rfl
theorem fd_numbered_columns (T : Tx K mg) : ∃ fd, FunD K "numbered_columns" "numbered_columns" (defArgs s_numbered_columns) (defBody s_numbered_columns) (defScope s_numbered_columns) (d_numbered_columns.dvs K) (d_numbered_columns.kws K) (He.ga K "numbered_columns") fd := T.c.def_ 30 (d := d_numbered_columns) rfl
theorem fd_columns_of_editions (T : Tx K mg) : ∃ fd, FunD K "columns_of_editions" "columns_of_editions" (defArgs s_columns_of_editions) (defBody s_columns_of_editions) (defScope s_columns_of_editions) (d_columns_of_editions.dvs K) (d_columns_of_editions.kws K) (He.ga K "columns_of_editions") fd := T.c.def_ 31 (d := d_columns_of_editions) rfl
theorem fd_births (T : Tx K mg) : ∃ fd, FunD K "births" "births" (defArgs s_births) (defBody s_births) (defScope s_births) (d_births.dvs K) (d_births.kws K) (He.ga K "births") fd := T.c.def_ 32 (d := d_births) rfl
theorem fd_drops (T : Tx K mg) : ∃ fd, FunD K "drops" "drops" (defArgs s_drops) (defBody s_drops) (defScope s_drops) (d_drops.dvs K) (d_drops.kws K) (He.ga K "drops") fd := T.c.def_ 33 (d := d_drops) rfl
theorem fd_History___init__ (T : Tx K mg) : ∃ fd, FunD K "__init__" "History.__init__" (defArgs s_History___init__) (defBody s_History___init__) (defScope s_History___init__) (d_History___init__.dvs K) (d_History___init__.kws K) (He.ma K (He.ga K "History") "__init__") fd := T.c.def_ 34 (d := d_History___init__) rfl
theorem fd_History___len__ (T : Tx K mg) : ∃ fd, FunD K "__len__" "History.__len__" (defArgs s_History___len__) (defBody s_History___len__) (defScope s_History___len__) (d_History___len__.dvs K) (d_History___len__.kws K) (He.ma K (He.ga K "History") "__len__") fd := T.c.def_ 35 (d := d_History___len__) rfl
theorem fd_History___getitem__ (T : Tx K mg) : ∃ fd, FunD K "__getitem__" "History.__getitem__" (defArgs s_History___getitem__) (defBody s_History___getitem__) (defScope s_History___getitem__) (d_History___getitem__.dvs K) (d_History___getitem__.kws K) (He.ma K (He.ga K "History") "__getitem__") fd := T.c.def_ 36 (d := d_History___getitem__) rfl
theorem fd_History_columns (T : Tx K mg) : ∃ fd, FunD K "columns" "History.columns" (defArgs s_History_columns) (defBody s_History_columns) (defScope s_History_columns) (d_History_columns.dvs K) (d_History_columns.kws K) (He.ma K (He.ga K "History") "columns") fd := T.c.def_ 37 (d := d_History_columns) rfl
theorem fd_History_column (T : Tx K mg) : ∃ fd, FunD K "column" "History.column" (defArgs s_History_column) (defBody s_History_column) (defScope s_History_column) (d_History_column.dvs K) (d_History_column.kws K) (He.ma K (He.ga K "History") "column") fd := T.c.def_ 38 (d := d_History_column) rfl
theorem fd_History_by_number (T : Tx K mg) : ∃ fd, FunD K "by_number" "History.by_number" (defArgs s_History_by_number) (defBody s_History_by_number) (defScope s_History_by_number) (d_History_by_number.dvs K) (d_History_by_number.kws K) (He.ma K (He.ga K "History") "by_number") fd := T.c.def_ 39 (d := d_History_by_number) rfl
theorem fd_History_numbers (T : Tx K mg) : ∃ fd, FunD K "numbers" "History.numbers" (defArgs s_History_numbers) (defBody s_History_numbers) (defScope s_History_numbers) (d_History_numbers.dvs K) (d_History_numbers.kws K) (He.ma K (He.ga K "History") "numbers") fd := T.c.def_ 40 (d := d_History_numbers) rfl
theorem fd_History_born (T : Tx K mg) : ∃ fd, FunD K "born" "History.born" (defArgs s_History_born) (defBody s_History_born) (defScope s_History_born) (d_History_born.dvs K) (d_History_born.kws K) (He.ma K (He.ga K "History") "born") fd := T.c.def_ 41 (d := d_History_born) rfl
theorem fd_History_dropped (T : Tx K mg) : ∃ fd, FunD K "dropped" "History.dropped" (defArgs s_History_dropped) (defBody s_History_dropped) (defScope s_History_dropped) (d_History_dropped.dvs K) (d_History_dropped.kws K) (He.ma K (He.ga K "History") "dropped") fd := T.c.def_ 42 (d := d_History_dropped) rfl
theorem fd_History_behind (T : Tx K mg) : ∃ fd, FunD K "behind" "History.behind" (defArgs s_History_behind) (defBody s_History_behind) (defScope s_History_behind) (d_History_behind.dvs K) (d_History_behind.kws K) (He.ma K (He.ga K "History") "behind") fd := T.c.def_ 43 (d := d_History_behind) rfl
theorem fd_is_given (T : Tx K mg) : ∃ fd, FunD K "is_given" "is_given" (defArgs s_is_given) (defBody s_is_given) (defScope s_is_given) (d_is_given.dvs K) (d_is_given.kws K) (He.ga K "is_given") fd := T.c.def_ 44 (d := d_is_given) rfl
theorem fd__law_pool (T : Tx K mg) : ∃ fd, FunD K "_law_pool" "_law_pool" (defArgs s__law_pool) (defBody s__law_pool) (defScope s__law_pool) (d__law_pool.dvs K) (d__law_pool.kws K) (He.ga K "_law_pool") fd := T.c.def_ 45 (d := d__law_pool) rfl
theorem fd__law_draw (T : Tx K mg) : ∃ fd, FunD K "_law_draw" "_law_draw" (defArgs s__law_draw) (defBody s__law_draw) (defScope s__law_draw) (d__law_draw.dvs K) (d__law_draw.kws K) (He.ga K "_law_draw") fd := T.c.def_ 46 (d := d__law_draw) rfl
theorem fd__law_pick (T : Tx K mg) : ∃ fd, FunD K "_law_pick" "_law_pick" (defArgs s__law_pick) (defBody s__law_pick) (defScope s__law_pick) (d__law_pick.dvs K) (d__law_pick.kws K) (He.ga K "_law_pick") fd := T.c.def_ 47 (d := d__law_pick) rfl
theorem fd__law_value (T : Tx K mg) : ∃ fd, FunD K "_law_value" "_law_value" (defArgs s__law_value) (defBody s__law_value) (defScope s__law_value) (d__law_value.dvs K) (d__law_value.kws K) (He.ga K "_law_value") fd := T.c.def_ 48 (d := d__law_value) rfl
theorem fd__law_word (T : Tx K mg) : ∃ fd, FunD K "_law_word" "_law_word" (defArgs s__law_word) (defBody s__law_word) (defScope s__law_word) (d__law_word.dvs K) (d__law_word.kws K) (He.ga K "_law_word") fd := T.c.def_ 49 (d := d__law_word) rfl
theorem fd__law_cut (T : Tx K mg) : ∃ fd, FunD K "_law_cut" "_law_cut" (defArgs s__law_cut) (defBody s__law_cut) (defScope s__law_cut) (d__law_cut.dvs K) (d__law_cut.kws K) (He.ga K "_law_cut") fd := T.c.def_ 50 (d := d__law_cut) rfl
theorem fd__law_col_then (T : Tx K mg) : ∃ fd, FunD K "_law_col_then" "_law_col_then" (defArgs s__law_col_then) (defBody s__law_col_then) (defScope s__law_col_then) (d__law_col_then.dvs K) (d__law_col_then.kws K) (He.ga K "_law_col_then") fd := T.c.def_ 51 (d := d__law_col_then) rfl
theorem fd__law_then (T : Tx K mg) : ∃ fd, FunD K "_law_then" "_law_then" (defArgs s__law_then) (defBody s__law_then) (defScope s__law_then) (d__law_then.dvs K) (d__law_then.kws K) (He.ga K "_law_then") fd := T.c.def_ 52 (d := d__law_then) rfl
theorem fd__law_change (T : Tx K mg) : ∃ fd, FunD K "_law_change" "_law_change" (defArgs s__law_change) (defBody s__law_change) (defScope s__law_change) (d__law_change.dvs K) (d__law_change.kws K) (He.ga K "_law_change") fd := T.c.def_ 53 (d := d__law_change) rfl
theorem fd__law_first (T : Tx K mg) : ∃ fd, FunD K "_law_first" "_law_first" (defArgs s__law_first) (defBody s__law_first) (defScope s__law_first) (d__law_first.dvs K) (d__law_first.kws K) (He.ga K "_law_first") fd := T.c.def_ 54 (d := d__law_first) rfl
theorem fd__law_history (T : Tx K mg) : ∃ fd, FunD K "_law_history" "_law_history" (defArgs s__law_history) (defBody s__law_history) (defScope s__law_history) (d__law_history.dvs K) (d__law_history.kws K) (He.ga K "_law_history") fd := T.c.def_ 55 (d := d__law_history) rfl
theorem fd__law_cols (T : Tx K mg) : ∃ fd, FunD K "_law_cols" "_law_cols" (defArgs s__law_cols) (defBody s__law_cols) (defScope s__law_cols) (d__law_cols.dvs K) (d__law_cols.kws K) (He.ga K "_law_cols") fd := T.c.def_ 56 (d := d__law_cols) rfl
theorem fd__law_made (T : Tx K mg) : ∃ fd, FunD K "_law_made" "_law_made" (defArgs s__law_made) (defBody s__law_made) (defScope s__law_made) (d__law_made.dvs K) (d__law_made.kws K) (He.ga K "_law_made") fd := T.c.def_ 57 (d := d__law_made) rfl
theorem fd__law_told (T : Tx K mg) : ∃ fd, FunD K "_law_told" "_law_told" (defArgs s__law_told) (defBody s__law_told) (defScope s__law_told) (d__law_told.dvs K) (d__law_told.kws K) (He.ga K "_law_told") fd := T.c.def_ 58 (d := d__law_told) rfl
theorem fd__law_alive (T : Tx K mg) : ∃ fd, FunD K "_law_alive" "_law_alive" (defArgs s__law_alive) (defBody s__law_alive) (defScope s__law_alive) (d__law_alive.dvs K) (d__law_alive.kws K) (He.ga K "_law_alive") fd := T.c.def_ 59 (d := d__law_alive) rfl
theorem fd__law_one_right (T : Tx K mg) : ∃ fd, FunD K "_law_one_right" "_law_one_right" (defArgs s__law_one_right) (defBody s__law_one_right) (defScope s__law_one_right) (d__law_one_right.dvs K) (d__law_one_right.kws K) (He.ga K "_law_one_right") fd := T.c.def_ 60 (d := d__law_one_right) rfl
theorem fd_law (T : Tx K mg) : ∃ fd, FunD K "law" "law" (defArgs s_law) (defBody s_law) (defScope s_law) (d_law.dvs K) (d_law.kws K) (He.ga K "law") fd := T.c.def_ 61 (d := d_law) rfl
theorem ex_PARTS (T : Tx K mg) : He.tupB K "PARTS" [(.str "name"), (.str "greatest"), (.str "default"), (.str "number")] = true := List.all_eq_true.mp T.e _ (List.mem_of_getElem? (i := 0) rfl)
theorem ex_WAYS (T : Tx K mg) : He.tupB K "WAYS" [(.str "cut"), (.str "none"), (.str "refuse")] = true := List.all_eq_true.mp T.e _ (List.mem_of_getElem? (i := 1) rfl)
theorem ex_BadColumn_x (T : Tx K mg) : oexB K "BadColumn" "index" = true := List.all_eq_true.mp T.e _ (List.mem_of_getElem? (i := 2) rfl)
theorem ex_BadPart_x (T : Tx K mg) : oexB K "BadPart" "part" = true := List.all_eq_true.mp T.e _ (List.mem_of_getElem? (i := 3) rfl)
theorem ex_BadEdition_x (T : Tx K mg) : oexB K "BadEdition" "edition" = true := List.all_eq_true.mp T.e _ (List.mem_of_getElem? (i := 4) rfl)
theorem ex_BadEdition_not_BadColumn (T : Tx K mg) : exnB K "BadEdition" "BadColumn" = true := List.all_eq_true.mp T.e _ (List.mem_of_getElem? (i := 5) rfl)
theorem ex_UnknownName_g (T : Tx K mg) : oegB K "UnknownName" "name" = true := List.all_eq_true.mp T.e _ (List.mem_of_getElem? (i := 6) rfl)
theorem ex_UnknownName_not_BadColumn (T : Tx K mg) : exnB K "UnknownName" "BadColumn" = true := List.all_eq_true.mp T.e _ (List.mem_of_getElem? (i := 7) rfl)
theorem ex_UnknownName_not_BadEdition (T : Tx K mg) : exnB K "UnknownName" "BadEdition" = true := List.all_eq_true.mp T.e _ (List.mem_of_getElem? (i := 8) rfl)
theorem ex_Column (T : Tx K mg) : insB K "Column" = true := List.all_eq_true.mp T.e _ (List.mem_of_getElem? (i := 9) rfl)
theorem ex_Column_ne (T : Tx K mg) : neB K "Column" = true := List.all_eq_true.mp T.e _ (List.mem_of_getElem? (i := 10) rfl)
end
/-! ### the head and the end -/
abbrev RowR : PySem.W.OpenRow := PySem.W.OpenLaw.row PySem.Challenge.rw_editionrows_k09_whole_numbers
abbrev hkR : PySem.W.Hook := hookP 5 fal fnl exl
def obR (s : PySem.W.SharedT) : AlP := obsP 5 fal fnl exl (HandSHeadRun.getT s)
theorem obR_eq (s : PySem.W.SharedT) : obR s = hkR.obs s.abs := obsP_eq (HandSHeadRun.getT_eq s)
abbrev looseR : List PySem.Str := ((["_wall", "TableError", "BadColumn", "BadPart", "BadChange", "BadEdition", "UnknownName", "TooMany", "MISSING", "LETTERS", "LONGEST_NAME", "MOST_GREATEST", "is_whole", "is_list", "is_word", "is_name", "is_greatest", "is_value", "is_within", "PARTS", "Column", "column_named", "column_numbered", "WAYS", "MOST_COLUMNS"] : List PySem.Str) ++ (["is_change", "has_parts", "is_single_part", "is_way", "kind_of", "hindrance", "add_hindrance", "columns_behind", "changed_column", "changed_value", "value_above", "MOST_CHANGES", "is_edition", "edition_of", "numbered_columns", "columns_of_editions", "births", "drops", "History", "is_given", "_law_pool", "_law_draw", "_law_pick", "_law_value", "_law_word"] : List PySem.Str) ++ (["_law_cut", "_law_col_then", "_law_then", "_law_change", "_law_first", "_law_history", "_law_cols", "_law_made", "_law_told", "_law_alive", "_law_one_right"] : List PySem.Str))
theorem runL (w : World) : ∀ os : PySem.OsState, (HandSHeadRun.endF (HandSHeadRun.stepQ (HandSHeadRun.denQ HandSHeadRun.tabQ) RowR.prog w) 9000 RowR.prog w os).map (fun s => (HandSHeadRun.looksF RowR.prog (PySem.W.boot_heap w.params) s.abs, HandSHeadRun.seenQ (PySem.W.view RowR.prog [67]) looseR (PySem.importedModules RowR.prog.main.body) (fun s => PySem.W.xlAt (PySem.W.view RowR.prog [67]) [] s && PySem.W.recOk RowR.toRowW.records s) s.abs)) = some (true, PySem.W.openGood (PySem.W.view RowR.prog [67]) looseR) := by
  intro os
  kernel_rfl
theorem runO0 (w : World) : ∀ os : PySem.OsState, (HandSHeadRun.endF (HandSHeadRun.stepQ (HandSHeadRun.denQ HandSHeadRun.tabQ) RowR.prog w) 9000 RowR.prog w os).map (fun s => obsP 5 fa0 fn0 exl (HandSHeadRun.getT s)) = some (valP fn0) := by
  intro os
  kernel_rfl
theorem obs_two {n : Nat} {fa fb : List He.Fa} {fn gn : List He.DefD} {ex ey : PySem.W.Frag → Bool} {g : Addr → Option Obj} (h1 : obsP n fa fn ex g = valP fn) (h2 : obsP n fb gn ey g = valP gn) : obsP n (fa ++ fb) (fn ++ gn) ex g = valP (fn ++ gn) := by
  have a1 : ((fa.all fun f => f.ok (He.frG g (asW g n))) && fn.all fun d => d.ok (He.frG g (asW g n))) = true := congrArg (fun z : AlP => z.1.1) h1
  have a2 : fn.map (fun d => He.fnW (He.frG g (asW g n)) d.at_) = fn.map He.DefD.val := (congrArg (fun z : AlP => z.1.2) h1).trans (mapV_eq fn)
  have a3 : ex (He.frG g (asW g n)) = true := congrArg (fun z : AlP => z.2) h1
  have b1 : ((fb.all fun f => f.ok (He.frG g (asW g n))) && gn.all fun d => d.ok (He.frG g (asW g n))) = true := congrArg (fun z : AlP => z.1.1) h2
  have b2 : gn.map (fun d => He.fnW (He.frG g (asW g n)) d.at_) = gn.map He.DefD.val := (congrArg (fun z : AlP => z.1.2) h2).trans (mapV_eq gn)
  rw [valP_eq]
  rw [Bool.and_eq_true] at a1 b1
  show ((((fa ++ fb).all fun f => f.ok (He.frG g (asW g n))) && (fn ++ gn).all fun d => d.ok (He.frG g (asW g n)), (fn ++ gn).map fun d => He.fnW (He.frG g (asW g n)) d.at_), ex (He.frG g (asW g n))) = ((true, (fn ++ gn).map He.DefD.val), true)
  rw [List.all_append, List.all_append, a1.1, a1.2, b1.1, b1.2, List.map_append, a2, b2, List.map_append, a3]
  rfl
theorem join_run {S A B C : Type} {o : Option S} {f : S → A} {g : S → B} {h : S → C} {a : A} {b : B} {c : C} (e1 : o.map (fun s => (f s, g s)) = some (a, b)) (e2 : o.map h = some c) : o.map (fun s => (f s, g s, h s)) = some (a, b, c) := by
  cases o with
  | none => cases e1
  | some s =>
    have l : (f s, g s) = (a, b) := Option.some.inj e1
    have l1 : f s = a := congrArg Prod.fst l
    have l2 : g s = b := congrArg Prod.snd l
    have r : h s = c := Option.some.inj e2
    show some (f s, g s, h s) = some (a, b, c)
    rw [l1, l2, r]
theorem join_obs {n : Nat} {fa fb : List He.Fa} {fn gn : List He.DefD} {ex ey : PySem.W.Frag → Bool} {o : Option PySem.W.SharedT} (e1 : o.map (fun s => obsP n fa fn ex (HandSHeadRun.getT s)) = some (valP fn)) (e2 : o.map (fun s => obsP n fb gn ey (HandSHeadRun.getT s)) = some (valP gn)) :
    o.map (fun s => obsP n (fa ++ fb) (fn ++ gn) ex (HandSHeadRun.getT s)) = some (valP (fn ++ gn)) := by
  cases o with
  | none => cases e1
  | some s => exact congrArg some (obs_two (Option.some.inj e1) (Option.some.inj e2))
theorem runR (w : World) : HandSHeadRun.RunEq RowR (PySem.W.view RowR.prog [67]) hkR obR 9000 looseR w := fun os => join_run (runL w os) (runO0 w os)
section
variable {P : Program} {w : World} {K : PySem.W.Frag} {mg : Str → Option Value} {base : Heap}
/-! is_whole -/
def sp_is_whole (K : PySem.W.Frag) : Sp := fun vs H Q _ => ∃ (x : V) (t : String), vs = [x] ∧ TyX K H x (.type t) ∧ Q (.bl (isI x)) H
theorem ok_is_whole (T : Tx K mg) : Callee P w K mg base CX0 1 "is_whole" ["value"] [] (sp_is_whole K) := by
  refine mkCallee (fd_is_whole T) (mg_is_whole T) sc_is_whole (fun _ _ _ _ _ _ us hl => match us, hl with | [_], _ => rfl) (fun vs H Q E h => ?_) (fun cdv A outer s H vs Q E hr h => ?_)
  · obtain ⟨x, t, rfl, _⟩ := h
    rfl
  · obtain ⟨x, t, rfl, ty, k⟩ := h
    obtain ⟨ba, bb, e1, e2, e3⟩ := kit_whole ty
    refine ⟨_, pss_one (ps_ret (pe_and (pe_callB call_isi (by rfl) (fr_isinstance T) (by decide +kernel) (pa_cons (pv 0) (pa_cons (pe_bltn (v := .ty "int") (by rfl) (fr_int T) (by decide +kernel) rfl) pa_nil)))
      (pe_one (pe_not (pe_callB call_isi (by rfl) (fr_isinstance T) (by decide +kernel) (pa_cons (pv 0) (pa_cons (pe_bltn (v := .ty "bool") (by rfl) (fr_bool T) (by decide +kernel) rfl) pa_nil))))))), ?_⟩
    refine ⟨x, rfl, x, .ty "int", _, _, ba, rfl, .ty "int", ty, kit_ty e1, ba, rfl, ?_⟩
    cases ba with
    | false =>
      refine iteF ?_
      rw [← e3] at k
      exact k
    | true =>
      refine iteT ⟨x, rfl, x, .ty "bool", _, _, bb, rfl, .ty "bool", ty, kit_ty e2, bb, rfl, ?_⟩
      rw [← e3] at k
      exact k
/-! is_list, of a list or a tuple -/
theorem sqL_ty {K : PySem.W.Frag} {H : Hp} {a : Addr} {xs : List V} (h : SqL K H a xs) : TyX K H (.ref a) (.type "list") := by
  rcases h with (h | ⟨o, h⟩) | ⟨o, its, n, h, hc, _⟩
  · exact .base (.lst h)
  · exact .base (.frz h)
  · exact .kList h hc
def sp_is_list (K : PySem.W.Frag) : Sp := fun vs H Q _ => ∃ (a : Addr) (xs : List V), vs = [.ref a] ∧ SqL K H a xs ∧ ∀ H', Same H H' → Q (.bl true) H'
theorem ok_is_list (T : Tx K mg) : Callee P w K mg base CX0 1 "is_list" ["value"] [] (sp_is_list K) := by
  refine mkCallee (fd_is_list T) (mg_is_list T) sc_is_list (fun _ _ _ _ _ _ us hl => match us, hl with | [_], _ => rfl) (fun vs H Q E h => ?_) (fun cdv A outer s H vs Q E hr h => ?_)
  · obtain ⟨a, xs, rfl, _⟩ := h
    rfl
  · obtain ⟨a, xs, rfl, hx, k⟩ := h
    refine ⟨_, pss_one (ps_ret (pe_callB call_isiT (by rfl) (fr_isinstance T) (by decide +kernel) (pa_cons (pv 0) (pa_cons (pe_tup (pa_cons (pe_bltn (v := .ty "list") (by rfl) (fr_list T) (by decide +kernel) rfl) (pa_cons (pe_bltn (v := .ty "tuple") (by rfl) (fr_tuple T) (by decide +kernel) rfl) pa_nil))) pa_nil)))), ?_⟩
    refine ⟨_, rfl, (by show 2 ≤ sizeLine; decide), fun t nt => ?_⟩
    have s := same_new (o := .tup [.ty "list", .ty "tuple"]) nt
    exact ⟨.ref a, t, _, _, _, true, rfl, upd_same, .cons (.ty "list") (.cons (.ty "tuple") .nil), sqL_ty (s.seq hx), kitAny_cons (b := true) (kit_ty (by decide +kernel)) (fun z => by cases z) (fun _ => rfl), k _ s⟩
/-! is_word, of any value and a tuple of words -/
def wordV (x : V) (xs : List V) : Bool := match x with
  | .str z => inV (.str z) xs
  | _ => false
theorem kit_strW {K : PySem.W.Frag} {H : Hp} {x : V} {t : String} (ty : TyX K H x (.type t)) : ∃ a : Bool, kitB t "str" = some a ∧ ((a = true ∧ ∃ z, x = .str z) ∨ (a = false ∧ ∀ xs, wordV x xs = false)) := by
  cases ty with
  | base h =>
    cases h with
    | str z => exact ⟨true, by decide +kernel, .inl ⟨rfl, z, rfl⟩⟩
    | _ => exact ⟨false, by decide +kernel, .inr ⟨rfl, fun _ => rfl⟩⟩
  | _ => exact ⟨false, by decide +kernel, .inr ⟨rfl, fun _ => rfl⟩⟩
def sp_is_word (K : PySem.W.Frag) : Sp := fun vs H Q _ => ∃ (x : V) (t : String) (p : Addr) (xs : List V), vs = [x, .ref p] ∧ TyX K H x (.type t) ∧ SqT K H p xs ∧ xs.all flatV = true ∧ Q (.bl (wordV x xs)) H
theorem ok_is_word (T : Tx K mg) : Callee P w K mg base CX0 1 "is_word" ["value", "words"] [] (sp_is_word K) := by
  refine mkCallee (fd_is_word T) (mg_is_word T) sc_is_word (fun _ _ _ _ _ _ us hl => match us, hl with | [_, _], _ => rfl) (fun vs H Q E h => ?_) (fun cdv A outer s H vs Q E hr h => ?_)
  · obtain ⟨x, t, p, xs, rfl, _⟩ := h
    rfl
  · obtain ⟨x, t, p, xs, rfl, ty, hp, hf, k⟩ := h
    obtain ⟨a, e1, e2⟩ := kit_strW ty
    refine ⟨_, pss_one (ps_ret (pe_and (pe_callB call_isi (by rfl) (fr_isinstance T) (by decide +kernel) (pa_cons (pv 0) (pa_cons (pe_bltn (v := .ty "str") (by rfl) (fr_str T) (by decide +kernel) rfl) pa_nil)))
      (pe_one (pe_cmpR op_in_seq (pv 0) (pv 1) (by rfl))))), ?_⟩
    refine ⟨x, rfl, x, .ty "str", _, _, a, rfl, .ty "str", ty, kit_ty e1, a, rfl, ?_⟩
    rcases e2 with ⟨rfl, z, rfl⟩ | ⟨rfl, e⟩
    · exact iteT ⟨_, rfl, _, rfl, p, xs, rfl, .inr hp, rfl, hf, k⟩
    · rw [e xs] at k
      exact k
/-! is_name -/
def letters : Str := "abcdefghijklmnopqrstuvwxyz"
def isNm : V → Bool
  | .str n => decide (1 ≤ n.length) && (decide (n.length ≤ 8) && n.cps.toList.all fun c => decide (c ∈ letters.cps.toList))
  | _ => false
def sp_is_name (K : PySem.W.Frag) : Sp := fun vs H Q _ => ∃ (x : V) (t : String), vs = [x] ∧ TyX K H x (.type t) ∧ (∀ n, x = .str n → n.length ≤ 1000) ∧ ∀ H', Same H H' → Q (.bl (isNm x)) H'
theorem kit_str2 {K : PySem.W.Frag} {H : Hp} {x : V} {t : String} (ty : TyX K H x (.type t)) : ∃ a : Bool, kitB t "str" = some a ∧ ((a = true ∧ ∃ z, x = .str z) ∨ (a = false ∧ ∀ z, x ≠ .str z)) := by
  cases ty with
  | base h =>
    cases h with
    | str z => exact ⟨true, by decide +kernel, .inl ⟨rfl, z, rfl⟩⟩
    | _ => exact ⟨false, by decide +kernel, .inr ⟨rfl, fun z h => by cases h⟩⟩
  | _ => exact ⟨false, by decide +kernel, .inr ⟨rfl, fun z h => by cases h⟩⟩
theorem ok_is_name (T : Tx K mg) : Callee P w K mg base CX0 1 "is_name" ["value"] [] (sp_is_name K) := by
  refine mkCallee (fd_is_name T) (mg_is_name T) sc_is_name (fun _ _ _ _ _ _ us hl => match us, hl with | [_], _ => rfl) (fun vs H Q E h => ?_) (fun cdv A outer s H vs Q E hr h => ?_)
  · obtain ⟨x, t, rfl, _⟩ := h
    rfl
  · obtain ⟨x, t, rfl, ty, hlen, k⟩ := h
    obtain ⟨tk, gL⟩ := ms_LETTERS T
    obtain ⟨tk2, gN⟩ := mi_LONGEST_NAME T
    obtain ⟨a, e1, e2⟩ := kit_str2 ty
    have nd := sc_is_name.nd
    refine ⟨_, pss_cons (ps_if (PW.pt (pw_or (pt_not (pt_val (pe_callB call_isi (by rfl) (fr_isinstance T) (by decide +kernel) (pa_cons (pv 0) (pa_cons (pe_bltn (v := .ty "str") (by rfl) (fr_str T) (by decide +kernel) rfl) pa_nil)))))
        (pw_or1 (pt_not (pt_chain op_le op_le pe_int (pe_callB call_len_str (by rfl) (fr_len T) PySem.boot_len (pa_cons (pv 0) pa_nil)) (pe_glob (v := .int 8) (by rfl) gN ⟨_, rfl⟩)))))) (pss_one (ps_ret pe_bl)) pss_nil)
      (pss_one (ps_ret (pe_callB (cr_all rfl) (by rfl) (fr_all T) (by decide +kernel) (pa_cons (pe_lc (own := [("letter", 1)]) (g := gName 1) (tt := tYes) rfl nd (pi_str (pv 0)) (blkOk_by (N := ["value", "letter"]) (sc := defScope s_is_name) (by decide +kernel))
        (fun _ _ _ _ _ => pg_name (i := 1) nd rfl (Or.inl rfl)) (fun _ _ _ _ _ => pts_nil) (fun _ _ _ _ _ => pe_cmpR op_in_sign (pv 1) (pe_glob (v := .str letters) (by rfl) gL ⟨_, rfl⟩) (by rfl))) pa_nil)))), ?_⟩
    refine ⟨x, rfl, x, .ty "str", _, _, a, rfl, .ty "str", ty, kit_ty e1, _, rfl, ?_⟩
    rcases e2 with ⟨rfl, z, rfl⟩ | ⟨rfl, hz⟩
    · have hl := hlen z rfl
      refine iteF ⟨_, rfl, z, rfl, Nat.le_trans hl (by decide), _, _, rfl, rfl, decide ((1 : Int) ≤ (z.length : Int)), rfl, ?_⟩
      have e0 : isNm (.str z) = (decide ((1 : Int) ≤ (z.length : Int)) && (decide ((z.length : Int) ≤ 8) && z.cps.toList.all fun c => decide (c ∈ letters.cps.toList))) := by
        have a1 : decide (1 ≤ z.length) = decide ((1 : Int) ≤ (z.length : Int)) := by
          rw [decide_eq_decide]
          omega
        have a2 : decide (z.length ≤ 8) = decide ((z.length : Int) ≤ 8) := by
          rw [decide_eq_decide]
          omega
        show (decide (1 ≤ z.length) && (decide (z.length ≤ 8) && _)) = _
        rw [a1, a2]
      cases h1 : decide ((1 : Int) ≤ (z.length : Int)) with
      | false =>
        have e9 : isNm (.str z) = false := by
          rw [e0, h1]
          rfl
        rw [e9] at k
        exact iteF ⟨false, rfl, iteT (k H (Same.refl _))⟩
      | true =>
        refine iteT ⟨_, _, rfl, rfl, decide ((z.length : Int) ≤ 8), rfl, ?_⟩
        rw [h1] at e0
        cases h2 : decide ((z.length : Int) ≤ 8) with
        | false =>
          have e9 : isNm (.str z) = false := by
            rw [e0, h2]
            rfl
          rw [e9] at k
          exact iteT (k H (Same.refl _))
        | true =>
          rw [h2, Bool.true_and, Bool.true_and] at e0
          rw [e0] at k
          refine iteF (nxt ?_)
          dsimp only
          refine pl_r1 (tlc_S (fun c => .bl (decide (c ∈ letters.cps.toList))) z ?_ ?_ ?_ ?_ ?_)
          · exact fun R r => ⟨_, rfl, r⟩
          · exact Nat.le_trans hl (by decide)
          · exact fun x => rfl
          · exact fun c hc H' s' R r => ⟨_, rfl, c, letters, rfl, rfl, r H' (Same.refl _)⟩
          · intro D H' hD sD hD2
            refine ⟨D, z.cps.toList.map fun c => decide (c ∈ letters.cps.toList), rfl, sqL_of (by rw [List.map_map]; exact hD2), ?_⟩
            rw [List.all_map]
            exact k H' sD
    · have e0 : isNm x = false := by
        cases x with
        | str z => exact absurd rfl (hz z)
        | _ => rfl
      rw [e0] at k
      exact k H (Same.refl _)
/-! is_greatest -/
def isGr : V → Bool
  | .int i => decide (1 ≤ i) && decide (i ≤ 99)
  | _ => false
def sp_is_greatest (K : PySem.W.Frag) : Sp := fun vs H Q _ => ∃ (x : V) (t : String), vs = [x] ∧ TyX K H x (.type t) ∧ Q (.bl (isGr x)) H
theorem ok_is_greatest (T : Tx K mg) : Callee P w K mg base CX0 2 "is_greatest" ["value"] [] (sp_is_greatest K) := by
  have C1 := ok_is_whole (P := P) (w := w) (base := base) T
  refine mkCallee (fd_is_greatest T) (mg_is_greatest T) sc_is_greatest (fun _ _ _ _ _ _ us hl => match us, hl with | [_], _ => rfl) (fun vs H Q E h => ?_) (fun cdv A outer s H vs Q E hr h => ?_)
  · obtain ⟨x, t, rfl, _⟩ := h
    rfl
  · obtain ⟨x, t, rfl, ty, k⟩ := h
    obtain ⟨tk, gM⟩ := mi_MOST_GREATEST T
    refine ⟨_, pss_one (ps_ret (pe_and (pcall C1 hr (pa_cons (pv 0) pa_nil)) (pe_one (pe_chain op_le op_le pe_int (pv 0) (pe_glob (v := .int 99) (by rfl) gM ⟨_, rfl⟩))))), ?_⟩
    refine ⟨x, rfl, x, t, rfl, ty, _, rfl, ?_⟩
    cases x with
    | int i =>
      refine iteT ⟨_, rfl, _, _, rfl, rfl, _, rfl, ?_⟩
      have e : isGr (.int i) = (decide (1 ≤ i) && decide (i ≤ 99)) := rfl
      rw [e] at k
      cases h1 : decide (1 ≤ i) with
      | false =>
        rw [h1] at k
        exact k
      | true =>
        rw [h1] at k
        exact ⟨_, _, rfl, rfl, k⟩
    | _ => exact iteF k
/-! is_value -/
def isVal : V → Bool
  | .non => true
  | .int i => decide (0 ≤ i)
  | _ => false
def sp_is_value (K : PySem.W.Frag) : Sp := fun vs H Q _ => ∃ (x : V) (t : String), vs = [x] ∧ TyX K H x (.type t) ∧ Q (.bl (isVal x)) H
theorem ok_is_value (T : Tx K mg) : Callee P w K mg base CX0 2 "is_value" ["value"] [] (sp_is_value K) := by
  have C1 := ok_is_whole (P := P) (w := w) (base := base) T
  refine mkCallee (fd_is_value T) (mg_is_value T) sc_is_value (fun _ _ _ _ _ _ us hl => match us, hl with | [_], _ => rfl) (fun vs H Q E h => ?_) (fun cdv A outer s H vs Q E hr h => ?_)
  · obtain ⟨x, t, rfl, _⟩ := h
    rfl
  · obtain ⟨x, t, rfl, ty, k⟩ := h
    refine ⟨_, pss_one (ps_ret (pe_or (pe_cmpR op_isN (pv 0) pe_non (nomark _)) (pe_one (pe_and (pcall C1 hr (pa_cons (pv 0) pa_nil)) (pe_one (pe_cmpR op_ge (pv 0) pe_int (nomark _))))))), ?_⟩
    refine ⟨x, rfl, rfl, _, rfl, ?_⟩
    by_cases hx : x = .non
    · subst hx
      exact k
    · rw [decide_eq_false hx]
      refine iteF ⟨x, rfl, x, t, rfl, ty, _, rfl, ?_⟩
      cases x with
      | int i => exact ⟨_, rfl, _, _, rfl, rfl, k⟩
      | non => exact absurd rfl hx
      | _ => exact k
/-! is_within -/
def isIn (g : Int) : V → Bool
  | .non => true
  | .int i => decide (0 ≤ i) && decide (i ≤ g)
  | _ => false
def sp_is_within (K : PySem.W.Frag) : Sp := fun vs H Q _ => ∃ (x : V) (g : Int) (t : String), vs = [x, .int g] ∧ TyX K H x (.type t) ∧ Q (.bl (isIn g x)) H
theorem ok_is_within (T : Tx K mg) : Callee P w K mg base CX0 3 "is_within" ["value", "greatest"] [] (sp_is_within K) := by
  have C1 := ok_is_value (P := P) (w := w) (base := base) T
  refine mkCallee (fd_is_within T) (mg_is_within T) sc_is_within (fun _ _ _ _ _ _ us hl => match us, hl with | [_, _], _ => rfl) (fun vs H Q E h => ?_) (fun cdv A outer s H vs Q E hr h => ?_)
  · obtain ⟨x, g, t, rfl, _⟩ := h
    rfl
  · obtain ⟨x, g, t, rfl, ty, k⟩ := h
    refine ⟨_, pss_one (ps_ret (pe_and (pcall C1 hr (pa_cons (pv 0) pa_nil)) (pe_one (pe_or (pe_cmpR op_isN (pv 0) pe_non (nomark _)) (pe_one (pe_cmpR op_le (pv 0) (pv 1) (nomark _))))))), ?_⟩
    refine ⟨x, rfl, x, t, rfl, ty, _, rfl, ?_⟩
    cases x with
    | non => exact ⟨_, rfl, rfl, _, rfl, k⟩
    | int i =>
      by_cases hi : 0 ≤ i
      · have e : isVal (.int i) = true := decide_eq_true hi
        rw [e]
        refine ⟨_, rfl, rfl, _, rfl, ?_⟩
        refine ⟨_, rfl, _, rfl, _, _, rfl, rfl, ?_⟩
        have e2 : isIn g (.int i) = decide (i ≤ g) := by
          show (decide (0 ≤ i) && decide (i ≤ g)) = _
          rw [decide_eq_true hi, Bool.true_and]
        rw [e2] at k
        exact k
      · have e : isVal (.int i) = false := decide_eq_false hi
        rw [e]
        have e2 : isIn g (.int i) = false := by
          show (decide (0 ≤ i) && decide (i ≤ g)) = _
          rw [decide_eq_false hi, Bool.false_and]
        rw [e2] at k
        exact k
    | _ => exact k
/-! Column.__init__, where its parts fit -/
def colFs (n : Str) (g : Int) (d : V) (k : Int) : List (Str × V) := [("name", .str n), ("greatest", .int g), ("default", d), ("number", .int k)]
theorem colFs_eq (n : Str) (g : Int) (d : V) (k : Int) : putF "number" (.int k) (putF "default" d (putF "greatest" (.int g) (putF "name" (.str n) []))) = colFs n g d k := by
  have h1 : ¬ (("name" : Str) = "greatest") := by decide +kernel
  have h2 : ¬ (("name" : Str) = "default") := by decide +kernel
  have h3 : ¬ (("greatest" : Str) = "default") := by decide +kernel
  have h4 : ¬ (("name" : Str) = "number") := by decide +kernel
  have h5 : ¬ (("greatest" : Str) = "number") := by decide +kernel
  have h6 : ¬ (("default" : Str) = "number") := by decide +kernel
  simp only [putF, if_neg h1, if_neg h2, if_neg h3, if_neg h4, if_neg h5, if_neg h6]
  rfl
theorem put2 (n : Str) (g : Int) : putF "greatest" (.int g) (putF "name" (.str n) []) = ([("name", .str n), ("greatest", .int g)] : List (Str × V)) := by
  have h1 : ¬ (("name" : Str) = "greatest") := by decide +kernel
  simp only [putF, if_neg h1]
theorem put3 (n : Str) (g : Int) (d : V) : putF "default" d (putF "greatest" (.int g) (putF "name" (.str n) [])) = ([("name", .str n), ("greatest", .int g), ("default", d)] : List (Str × V)) := by
  have h2 : ¬ (("name" : Str) = "default") := by decide +kernel
  have h3 : ¬ (("greatest" : Str) = "default") := by decide +kernel
  rw [put2]
  simp only [putF, if_neg h2, if_neg h3]
theorem colFs_name {n : Str} {g : Int} {d : V} {k : Int} : (colFs n g d k).lookup ("name" : Str) = some (.str n) := by
  unfold colFs
  simp [List.lookup]
theorem colFs_greatest {n : Str} {g : Int} {d : V} {k : Int} : (colFs n g d k).lookup ("greatest" : Str) = some (.int g) := by
  have h1 : (("greatest" : Str) == "name") = false := by decide +kernel
  unfold colFs
  simp [List.lookup, h1]
theorem colFs_default {n : Str} {g : Int} {d : V} {k : Int} : (colFs n g d k).lookup ("default" : Str) = some d := by
  have h1 : (("default" : Str) == "name") = false := by decide +kernel
  have h2 : (("default" : Str) == "greatest") = false := by decide +kernel
  unfold colFs
  simp [List.lookup, h1, h2]
theorem colFs_number {n : Str} {g : Int} {d : V} {k : Int} : (colFs n g d k).lookup ("number" : Str) = some (.int k) := by
  have h1 : (("number" : Str) == "name") = false := by decide +kernel
  have h2 : (("number" : Str) == "greatest") = false := by decide +kernel
  have h3 : (("number" : Str) == "default") = false := by decide +kernel
  unfold colFs
  simp [List.lookup, h1, h2, h3]
/-- a Column stands at c -/
def ColAt (K : PySem.W.Frag) (H : Hp) (c : Addr) (n : Str) (g : Int) (d : V) (k : Int) : Prop := ∃ dx, H c = some (.ins (He.ga K "Column") dx (colFs n g d k))
def sp_Col_init (K : PySem.W.Frag) : Sp := fun vs H Q _ => ∃ (c dx : Addr) (n : Str) (g k : Int) (d : V), vs = [.ref c, .str n, .int g, d, .int k] ∧ H c = some (.ins (He.ga K "Column") dx []) ∧ isNm (.str n) = true ∧ isGr (.int g) = true ∧ isIn g d = true ∧ 0 ≤ k ∧
  ∀ H', ColAt K H' c n g d k → (∀ b o, b ≠ c → H b = some o → H' b = some o) → Q .non H'
theorem nm_len {n : Str} (h : isNm (.str n) = true) : n.length ≤ 1000 := by
  have h' : (decide (1 ≤ n.length) && (decide (n.length ≤ 8) && _)) = true := h
  rw [Bool.and_eq_true, Bool.and_eq_true] at h'
  have := of_decide_eq_true h'.2.1
  omega
theorem ok_Col_init (T : Tx K mg) : ∃ fd, FnOk P w K mg base CX0 4 (He.ma K (He.ga K "Column") "__init__") fd ["self", "name", "greatest", "default", "number"] (sp_Col_init K) ∧
    FunD K "__init__" "Column.__init__" (defArgs s_Column___init__) (defBody s_Column___init__) (defScope s_Column___init__) (d_Column___init__.dvs K) (d_Column___init__.kws K) (He.ma K (He.ga K "Column") "__init__") fd := by
  have C1 := (ok_is_name (P := P) (w := w) (base := base) T).up (show 1 ≤ 3 by decide)
  have C2 := (ok_is_greatest (P := P) (w := w) (base := base) T).up (show 2 ≤ 3 by decide)
  have C3 := ok_is_within (P := P) (w := w) (base := base) T
  have C4 := (ok_is_whole (P := P) (w := w) (base := base) T).up (show 1 ≤ 3 by decide)
  obtain ⟨fd, F⟩ := fd_Column___init__ T
  refine ⟨fd, F.ok (CX := CX0) sc_Column___init__ (fun vs H Q E h => ?_) (fun cdv A outer s H vs Q E hr h => ?_), F⟩
  · obtain ⟨c, dx, n, g, k, d, rfl, _⟩ := h
    rfl
  suffices hh : ∃ t, PSs (cxOf CX0 P w K mg base ["self", "name", "greatest", "default", "number"] "Column.__init__" (defScope s_Column___init__) (He.ma K (He.ga K "Column") "__init__") cdv A outer s H E).nox (defBody s_Column___init__) t ∧
      t { nx := fun _ H' => Q .non H', rt := Q } (start ["self", "name", "greatest", "default", "number"] vs) H by
    obtain ⟨t, h1, h2⟩ := hh
    exact ⟨t, h1.nox, h2⟩
  obtain ⟨c, dx, n, g, k, d, rfl, hc, hn, hg, hd, hk, kk⟩ := h
  have cl := cl_Column T
  refine ⟨_, pss_cons (ps_if (pt_not (pt_val (pcall C1 hr (pa_cons (pv 1) pa_nil)))) (pss_one ps_never) pss_nil)
    (pss_cons (ps_if (pt_not (pt_val (pcall C2 hr (pa_cons (pv 2) pa_nil)))) (pss_one ps_never) pss_nil)
    (pss_cons (ps_if (pt_not (pt_val (pcall C3 hr (pa_cons (pv 3) (pa_cons (pv 2) pa_nil))))) (pss_one ps_never) pss_nil)
    (pss_cons (ps_if (PW.pt (pw_or (pt_not (pt_val (pcall C4 hr (pa_cons (pv 4) pa_nil)))) (pw_or1 (pt_cmpR op_lt (pv 4) pe_int (nomark _))))) (pss_one ps_never) pss_nil)
    (pss_cons (ps_fld (pv 0) (pv 1) rfl) (pss_cons (ps_fld (pv 0) (pv 2) rfl) (pss_cons (ps_fld (pv 0) (pv 3) rfl) (pss_one (ps_fld (pv 0) (pv 4) rfl)))))))), ?_⟩
  have td : ∃ t, ∀ H : Hp, TyX K H d (.type t) := by
    cases d with
    | non => exact ⟨_, fun _ => .base .non⟩
    | int i => exact ⟨_, fun _ => .base (.int i)⟩
    | _ => cases hd
  obtain ⟨t, td⟩ := td
  refine ⟨_, rfl, .str n, _, rfl, .base (.str n), fun m e => by cases e; exact nm_len hn, fun H1 s1 => ⟨_, rfl, ?_⟩⟩
  rw [hn]
  refine iteF ⟨_, rfl, .int g, _, rfl, .base (.int g), _, rfl, ?_⟩
  rw [hg]
  refine iteF ⟨_, rfl, _, rfl, d, g, _, rfl, td _, _, rfl, ?_⟩
  rw [hd]
  refine iteF ⟨_, rfl, .int k, _, rfl, .base (.int k), _, rfl, iteF ⟨_, rfl, _, _, rfl, rfl, _, rfl, ?_⟩⟩
  rw [decide_eq_false (show ¬ k < 0 by omega)]
  refine iteF ?_
  have hc1 := s1 _ _ hc
  refine ⟨_, rfl, _, rfl, c, _, dx, _, rfl, hc1, cl, na_Column_name T, (by show 0 < 1000; decide), ?_⟩
  refine ⟨_, rfl, _, rfl, c, _, dx, _, rfl, upd_same, cl, na_Column_greatest T, (by show 1 < 1000; decide), ?_⟩
  refine ⟨_, rfl, _, rfl, c, _, dx, _, rfl, upd_same, cl, na_Column_default T, (by rw [put2]; show 2 < 1000; decide), ?_⟩
  refine ⟨_, rfl, _, rfl, c, _, dx, _, rfl, upd_same, cl, na_Column_number T, (by rw [put3]; show 3 < 1000; decide), ?_⟩
  refine kk _ ⟨dx, ?_⟩ fun b o hb e => by rw [upd_ne hb, upd_ne hb, upd_ne hb, upd_ne hb]; exact s1 _ _ e
  rw [upd_same, colFs_eq]
/-- Column(name, greatest, default) -/
theorem binds_Col3 (T : Tx K mg) {fd : FuncData} (F : FunD K "__init__" "Column.__init__" (defArgs s_Column___init__) (defBody s_Column___init__) (defScope s_Column___init__) (d_Column___init__.dvs K) (d_Column___init__.kws K) (He.ma K (He.ga K "Column") "__init__") fd) :
    ∃ ds, Vals [V.int 0] ds ∧ Binds K fd ["self", "name", "greatest", "default", "number"] ds := by
  have h := F.binds (ps := ["self", "name", "greatest", "default", "number"]) 4 1 (by intro z; cases z) rfl (fun TT D doc pm an cdv ct us its ks h1 h2 h3 => ?_) (by intro z; cases z)
  · exact h
  · match us, h1, its, h2, ks, h3 with
    | [u0, u1, u2, u3], _, [i0], _, [k0], _ => exact ⟨_, rfl, _, _, _, _, _, _, rfl, rfl, rfl⟩
/-! Column.changed, where the part fits -/
def put (part : Str) (v : V) (n : V) (g : V) (d : V) (k : V) : List (Key × V) := putK ([(Sum.inr "name", n), (Sum.inr "greatest", g), (Sum.inr "default", d), (Sum.inr "number", k)] : List (Key × V)) (Sum.inr part) v
/-- what stands under the four names behind it -/
structure Four (part : Str) (v n g d k n' g' d' k' : V) : Prop where
  part_ : part = "name" ∨ part = "greatest" ∨ part = "default" ∨ part = "number"
  eq : (n', g', d', k') = (if part = "name" then (v, g, d, k) else if part = "greatest" then (n, v, d, k) else if part = "default" then (n, g, v, k) else (n, g, d, v))
theorem merge4 (x y z u : V) : mergeK [] [(Sum.inr "name", x), (Sum.inr "greatest", y), (Sum.inr "default", z), (Sum.inr "number", u)] = ([(Sum.inr "name", x), (Sum.inr "greatest", y), (Sum.inr "default", z), (Sum.inr "number", u)] : List (Key × V)) := by
  have h1 : ¬ ((Sum.inr "name" : Key) = (Sum.inr "greatest" : Key)) := by decide +kernel
  have h2 : ¬ ((Sum.inr "name" : Key) = (Sum.inr "default" : Key)) := by decide +kernel
  have h3 : ¬ ((Sum.inr "name" : Key) = (Sum.inr "number" : Key)) := by decide +kernel
  have h4 : ¬ ((Sum.inr "greatest" : Key) = (Sum.inr "default" : Key)) := by decide +kernel
  have h5 : ¬ ((Sum.inr "greatest" : Key) = (Sum.inr "number" : Key)) := by decide +kernel
  have h6 : ¬ ((Sum.inr "default" : Key) = (Sum.inr "number" : Key)) := by decide +kernel
  simp [mergeK, putK, h1, h2, h3, h4, h5, h6]
theorem put_get {part : Str} {v n g d k n' g' d' k' : V} (f : Four part v n g d k n' g' d' k') : valV (put part v n g d k) (Sum.inr "name") = some n' ∧ valV (put part v n g d k) (Sum.inr "greatest") = some g' ∧ valV (put part v n g d k) (Sum.inr "default") = some d' ∧ valV (put part v n g d k) (Sum.inr "number") = some k' := by
  have h1 : ¬ ((Sum.inr "name" : Key) = (Sum.inr "greatest" : Key)) := by decide +kernel
  have h2 : ¬ ((Sum.inr "name" : Key) = (Sum.inr "default" : Key)) := by decide +kernel
  have h3 : ¬ ((Sum.inr "name" : Key) = (Sum.inr "number" : Key)) := by decide +kernel
  have h4 : ¬ ((Sum.inr "greatest" : Key) = (Sum.inr "default" : Key)) := by decide +kernel
  have h5 : ¬ ((Sum.inr "greatest" : Key) = (Sum.inr "number" : Key)) := by decide +kernel
  have h6 : ¬ ((Sum.inr "default" : Key) = (Sum.inr "number" : Key)) := by decide +kernel
  have k1 : ¬ ((Sum.inr "greatest" : Key) = (Sum.inr "name" : Key)) := by decide +kernel
  have k2 : ¬ ((Sum.inr "default" : Key) = (Sum.inr "name" : Key)) := by decide +kernel
  have k3 : ¬ ((Sum.inr "number" : Key) = (Sum.inr "name" : Key)) := by decide +kernel
  have k4 : ¬ ((Sum.inr "default" : Key) = (Sum.inr "greatest" : Key)) := by decide +kernel
  have k5 : ¬ ((Sum.inr "number" : Key) = (Sum.inr "greatest" : Key)) := by decide +kernel
  have k6 : ¬ ((Sum.inr "number" : Key) = (Sum.inr "default" : Key)) := by decide +kernel
  have g1 : ¬ (("greatest" : Str) = "name") := by decide +kernel
  have g2 : ¬ (("default" : Str) = "name") := by decide +kernel
  have g3 : ¬ (("default" : Str) = "greatest") := by decide +kernel
  have g4 : ¬ (("number" : Str) = "name") := by decide +kernel
  have g5 : ¬ (("number" : Str) = "greatest") := by decide +kernel
  have g6 : ¬ (("number" : Str) = "default") := by decide +kernel
  have e := f.eq
  rcases f.part_ with rfl | rfl | rfl | rfl
  · rw [if_pos rfl] at e
    cases e
    simp [put, putK, valV, h1, h2, h3, h4, h5, h6, k1, k2, k3, k4, k5, k6]
  · rw [if_neg g1, if_pos rfl] at e
    cases e
    simp [put, putK, valV, h1, h2, h3, h4, h5, h6, k1, k2, k3, k4, k5, k6]
  · rw [if_neg g2, if_neg g3, if_pos rfl] at e
    cases e
    simp [put, putK, valV, h1, h2, h3, h4, h5, h6, k1, k2, k3, k4, k5, k6]
  · rw [if_neg g4, if_neg g5, if_neg g6] at e
    cases e
    simp [put, putK, valV, h1, h2, h3, h4, h5, h6, k1, k2, k3, k4, k5, k6]
/-- Column(name, greatest, default, number=..) -/
theorem kbinds_Col (T : Tx K mg) {fd : FuncData} (F : FunD K "__init__" "Column.__init__" (defArgs s_Column___init__) (defBody s_Column___init__) (defScope s_Column___init__) (d_Column___init__.dvs K) (d_Column___init__.kws K) (He.ma K (He.ga K "Column") "__init__") fd) :
    ∃ its mv : List Value, KBn K fd ["self", "name", "greatest", "default", "number"] 4 ["number"] (fun us ws => us ++ ws) (fun vs zs => vs ++ zs) := by
  have h := F.kbinds (ps := ["self", "name", "greatest", "default", "number"]) 4 ["number"] [] (fun us its mv ws => us ++ ws) (by intro z; cases z) (by intro z; cases z) (by intro q hq; cases hq) (fun r1 _ _ r4 => r1.append r4) (fun TT D doc pm an cdv ct us its mv ws h1 h2 h3 h4 => ?_)
  · exact h
  · match us, h1, its, h2, mv, h3, ws, h4 with
    | [u0, u1, u2, u3], _, [i0], _, [], _, [w0], _ => exact ⟨_, rfl, rfl⟩
def sp_changed (K : PySem.W.Frag) : Sp := fun vs H Q _ => ∃ (c : Addr) (part n n' : Str) (g k g' k' : Int) (d d' v : V), vs = [.ref c, .str part, v] ∧ ColAt K H c n g d k ∧ Four part v (.str n) (.int g) d (.int k) (.str n') (.int g') d' (.int k') ∧
  isNm (.str n') = true ∧ isGr (.int g') = true ∧ isIn g' d' = true ∧ 0 ≤ k' ∧ ∀ (a : Addr) (H' : Hp), H a = none → Same H H' → ColAt K H' a n' g' d' k' → Q (.ref a) H'
theorem ok_changed (T : Tx K mg) : ∃ fd, FnOk P w K mg base CX0 6 (He.ma K (He.ga K "Column") "changed") fd ["self", "part", "value"] (sp_changed K) ∧ Binds K fd ["self", "part", "value"] [] := by
  obtain ⟨fdI, GI, FI⟩ := ok_Col_init (P := P) (w := w) (base := base) T
  obtain ⟨_, _, kb⟩ := kbinds_Col T FI
  obtain ⟨fd, F⟩ := fd_Column_changed T
  have cl := cl_Column T
  refine ⟨fd, F.ok (CX := CX0) sc_Column_changed (fun vs H Q E h => ?_) (fun cdv A outer s H vs Q E hr h => ?_), F.bindsN fun _ _ _ _ _ _ us hl => match us, hl with | [_, _, _], _ => rfl⟩
  · obtain ⟨c, part, n, n', g, k, g', k', d, d', v, rfl, _⟩ := h
    rfl
  suffices hh : ∃ t, PSs (cxOf CX0 P w K mg base ["self", "part", "value", "parts"] "Column.changed" (defScope s_Column_changed) (He.ma K (He.ga K "Column") "changed") cdv A outer s H E).nox (defBody s_Column_changed) t ∧
      t { nx := fun _ H' => Q .non H', rt := Q } (start ["self", "part", "value", "parts"] vs) H by
    obtain ⟨t, h1, h2⟩ := hh
    exact ⟨t, h1.nox, h2⟩
  obtain ⟨c, part, n, n', g, k, g', k', d, d', v, rfl, ⟨dx, hc⟩, f4, hn, hg, hd, hk, kk⟩ := h
  have nd := sc_Column_changed.nd
  have hu := hu_of hr
  have CW := (ok_is_word (P := P) (w := w) (base := base) T).up (show 1 ≤ 5 by decide)
  refine ⟨_, pss_cons (ps_if (pt_not (pt_val (pcall CW hr (pa_cons (pv 1) (pa_cons (pe_glob (v := .ref (He.ga K "PARTS")) (by rfl) (mg_PARTS T) rfl) pa_nil))))) (pss_one ps_never) pss_nil)
    (pss_cons (ps_set (i := 3) nd rfl (Or.inl rfl) (pe_disp (pps_cons pe_str (pe_fld (pv 0) rfl) (pps_cons pe_str (pe_fld (pv 0) rfl) (pps_cons pe_str (pe_fld (pv 0) rfl) (pps_cons pe_str (pe_fld (pv 0) rfl) pps_nil)))) (by rfl) (by rfl) (fun z => by cases z) (by decide)))
    (pss_cons (ps_dput hu (pv 3) (pv 1) (pv 2) rfl)
    (pss_one (ps_ret (pe_makeK (mk_Column T) GI hr (by rfl) (mg_Column T) kb pass0 (pa_cons (pe_dget hu (pv 3) pe_str (fun _ _ => rfl)) (pa_cons (pe_dget hu (pv 3) pe_str (fun _ _ => rfl)) (pa_cons (pe_dget hu (pv 3) pe_str (fun _ _ => rfl)) pa_nil)))
      (pk_cons (pe_dget hu (pv 3) pe_str (fun _ _ => rfl)) pk_nil)))))), ?_⟩
  have hP : SqT K H (He.ga K "PARTS") [.str "name", .str "greatest", .str "default", .str "number"] := He.tupB_ok (ex_PARTS T) H
  have hin : wordV (.str part) [.str "name", .str "greatest", .str "default", .str "number"] = true := by
    rcases f4.part_ with rfl | rfl | rfl | rfl <;> decide +kernel
  refine ⟨_, rfl, .str part, _, _, _, rfl, .base (.str part), hP, rfl, _, rfl, ?_⟩
  rw [hin]
  refine iteF (nxt ?_)
  refine fun p np => ?_
  have hc1 : ∀ o, upd H p o c = some (.ins (He.ga K "Column") dx (colFs n g d k)) := fun o => same_new np _ _ hc
  refine ⟨_, rfl, c, _, dx, _, _, rfl, hc1 _, cl, na_Column_name T, colFs_name, _, rfl, c, _, dx, _, _, rfl, hc1 _, cl, na_Column_greatest T, colFs_greatest, _, rfl, c, _, dx, _, _, rfl, hc1 _, cl, na_Column_default T, colFs_default,
    _, rfl, c, _, dx, _, _, rfl, hc1 _, cl, na_Column_number T, colFs_number, upd_same, [(Sum.inr "name", .str n), (Sum.inr "greatest", .int g), (Sum.inr "default", d), (Sum.inr "number", .int k)], rfl, (by show 4 ≤ 15; decide), ?_⟩
  rw [upd_upd, merge4]
  refine ⟨_, rfl, _, rfl, _, rfl, p, _, rfl, DPut.k (k := Sum.inr part) upd_same (by show 4 < sizeLine; decide), ?_⟩
  rw [upd_upd]
  obtain ⟨q1, q2, q3, q4⟩ := put_get f4
  have hp : upd H p (.dK (put part v (.str n) (.int g) d (.int k))) p = some (.dK (put part v (.str n) (.int g) d (.int k))) := upd_same
  have s1 : Same H (upd H p (.dK (put part v (.str n) (.int g) d (.int k)))) := same_new np
  have g1 : DGet (upd H p (.dK (put part v (.str n) (.int g) d (.int k)))) p (.str "name") (some (.str n')) := by
    rw [← q1]
    exact DGet.k (k := Sum.inr "name") hp
  have g2 : DGet (upd H p (.dK (put part v (.str n) (.int g) d (.int k)))) p (.str "greatest") (some (.int g')) := by
    rw [← q2]
    exact DGet.k (k := Sum.inr "greatest") hp
  have g3 : DGet (upd H p (.dK (put part v (.str n) (.int g) d (.int k)))) p (.str "default") (some d') := by
    rw [← q3]
    exact DGet.k (k := Sum.inr "default") hp
  have g4 : DGet (upd H p (.dK (put part v (.str n) (.int g) d (.int k)))) p (.str "number") (some (.int k')) := by
    rw [← q4]
    exact DGet.k (k := Sum.inr "number") hp
  refine ⟨_, rfl, p, _, rfl, g1, _, rfl, p, _, rfl, g2, _, rfl, p, _, rfl, g3, _, rfl, p, _, rfl, g4, rfl, rfl, fun x dx2 nx ndx ndc => ?_⟩
  refine ⟨x, dx2, n', g', k', d', rfl, upd_same, hn, hg, hd, hk, fun H4 hc4 k4 => ⟨rfl, ?_⟩⟩
  exact kk x H4 (s1.free nx) (fun b o e => k4 b o (ne_of_none (s1 _ _ e) nx) (by rw [upd_ne (ne_of_none (s1 _ _ e) nx), upd_ne (ne_of_none (s1 _ _ e) ndx)]; exact s1 _ _ e)) hc4
-- needs: Column.__init__
/-! columns of a list, as data -/
structure Col where
  name : Str
  top : Int
  dflt : V
  num : Int
/-- the columns at the addresses as -/
inductive Cols (K : PySem.W.Frag) (H : Hp) : List Addr → List Col → Prop
  | nil : Cols K H [] []
  | cons {a : Addr} {as : List Addr} {c : Col} {cs : List Col} : ColAt K H a c.name c.top c.dflt c.num → Cols K H as cs → Cols K H (a :: as) (c :: cs)
theorem ColAt.keep {K : PySem.W.Frag} {H H' : Hp} {a : Addr} {n : Str} {g k : Int} {d : V} (s : Same H H') (h : ColAt K H a n g d k) : ColAt K H' a n g d k := h.imp fun _ e => s _ _ e
theorem Cols.keep {K : PySem.W.Frag} {H H' : Hp} (s : Same H H') : ∀ {as : List Addr} {cs : List Col}, Cols K H as cs → Cols K H' as cs
  | _, _, .nil => .nil
  | _, _, .cons h t => .cons (h.keep s) (t.keep s)
theorem Cols.len {K : PySem.W.Frag} {H : Hp} : ∀ {as : List Addr} {cs : List Col}, Cols K H as cs → as.length = cs.length
  | _, _, .nil => rfl
  | _, _, .cons _ t => congrArg Nat.succ t.len
theorem Cols.at_ {K : PySem.W.Frag} {H : Hp} : ∀ {as : List Addr} {cs : List Col} {i : Nat} {a : Addr}, Cols K H as cs → as[i]? = some a → ∃ c, cs[i]? = some c ∧ ColAt K H a c.name c.top c.dflt c.num
  | _, _, _, _, .nil, e => by simp at e
  | _, _, 0, _, .cons h t, e => by
    simp at e
    subst e
    exact ⟨_, rfl, h⟩
  | _, _, i + 1, a, .cons h t, e => by
    obtain ⟨c, h1, h2⟩ := Cols.at_ (i := i) (a := a) t (by simpa using e)
    exact ⟨c, by simpa using h1, h2⟩
def isN (n : Str) (c : Col) : Bool := decide (c.name = n)

/-! column_named; the columns of a list, as data -/
/-- what column_named gives: None, or the first of its name -/
def Named (as : List Addr) (cs : List Col) (n : Str) (v : V) : Prop := (v = .non ∧ cs.find? (isN n) = none) ∨ ∃ (i : Nat) (a : Addr) (c : Col), v = .ref a ∧ as[i]? = some a ∧ cs[i]? = some c ∧ cs.find? (isN n) = some c
def sp_column_named (K : PySem.W.Frag) : Sp := fun vs H Q _ => ∃ (l : Addr) (as : List Addr) (cs : List Col) (n : Str), vs = [.ref l, .str n] ∧ (SqL K H l (as.map V.ref) ∨ SqT K H l (as.map V.ref)) ∧ Cols K H as cs ∧ ∀ v, Named as cs n v → Q v H
theorem find_pre {cs : List Col} {i : Nat} {c : Col} {n : Str} (h : cs[i]? = some c) (hp : (cs.take i).find? (isN n) = none) : (cs.take (i + 1)).find? (isN n) = if isN n c = true then some c else none := by
  rw [List.take_add_one, h, List.find?_append, hp]
  show (Option.none).or _ = _
  rw [Option.none_or]
  show (match isN n c with | true => some c | false => none) = _
  cases isN n c <;> rfl
theorem find_take {cs : List Col} {i : Nat} {c : Col} {n : Str} (h : cs[i]? = some c) (hp : (cs.take i).find? (isN n) = none) (hc : isN n c = true) : cs.find? (isN n) = some c := by
  have e : cs = cs.take (i + 1) ++ cs.drop (i + 1) := (List.take_append_drop _ _).symm
  rw [e, List.find?_append, find_pre h hp, if_pos hc]
  rfl
theorem ok_column_named (T : Tx K mg) : Callee P w K mg base CX0 1 "column_named" ["columns", "name"] [] (sp_column_named K) := by
  refine mkCallee (fd_column_named T) (mg_column_named T) sc_column_named (fun _ _ _ _ _ _ us hl => match us, hl with | [_, _], _ => rfl) (fun vs H Q E h => ?_) (fun cdv A outer s H vs Q E hr h => ?_)
  · obtain ⟨l, as, cs, n, rfl, _⟩ := h
    rfl
  · obtain ⟨l, as, cs, n, rfl, hl, hc, k⟩ := h
    have nd := sc_column_named.nd
    have turn : ∀ (i : Nat) (x : V) (y : Option V), (as.map V.ref)[i]? = some x → (cs.take i).find? (isN n) = none → ∃ (a : Addr) (c : Col) (dx : Addr), x = .ref a ∧ as[i]? = some a ∧ cs[i]? = some c ∧ H a = some (.ins (He.ga K "Column") dx (colFs c.name c.top c.dflt c.num)) := fun i x y hx hp => by
      rw [List.getElem?_map] at hx
      cases ha : as[i]? with
      | none =>
        rw [ha] at hx
        cases hx
      | some a =>
        rw [ha] at hx
        obtain ⟨c, h1, dx, h2⟩ := hc.at_ ha
        exact ⟨a, c, dx, (Option.some.inj hx).symm, rfl, h1, h2⟩
    have fin : (cs.take as.length).find? (isN n) = none → Q .non H := fun h => by
      rw [hc.len, List.take_length] at h
      exact k _ (.inl ⟨rfl, h⟩)
    rcases hl with hl | hl
    · refine ⟨_, pss_cons (ps_if (pt_not (pt_val (pe_callB call_isi (by rfl) (fr_isinstance T) (by decide +kernel) (pa_cons (pv 1) (pa_cons (pe_bltn (v := .ty "str") (by rfl) (fr_str T) (by decide +kernel) rfl) pa_nil))))) (pss_one (ps_ret pe_non)) pss_nil)
        (pss_cons (ps_for PassesOwn.never rfl (pi_list (pv 0)) (pg_name (i := 2) nd rfl (Or.inl rfl)) (pss_one (ps_if (pt_cmpR op_eq (pe_fld (pv 2) rfl) (pv 1) (nomark _)) (pss_one (ps_ret (pv 2))) pss_nil))) (pss_one (ps_ret pe_non))), ?_⟩
      refine ⟨_, rfl, .str n, .ty "str", _, _, true, rfl, .ty "str", .base (.str n), kit_ty (by decide +kernel), _, rfl, iteF ⟨_, rfl, l, rfl, ⟨_, hl⟩, ?_⟩⟩
      refine for_list (xs := as.map V.ref) (fun i σ H' => H' = H ∧ (cs.take i).find? (isN n) = none ∧ ∃ y, σ = [some (.ref l), some (.str n), y]) ⟨rfl, rfl, _, rfl⟩ (fun i σ H' _ h => by rw [h.1]; exact hl) ?_ ?_
      · rintro i x σ H' hx ⟨rfl, hp, y, rfl⟩
        obtain ⟨a, c, dx, rfl, ha, hci, hat⟩ := turn i x y hx hp
        refine ⟨_, rfl, a, _, dx, _, _, rfl, hat, cl_Column T, na_Column_name T, colFs_name, _, rfl, rfl, _, rfl, ?_⟩
        by_cases e : c.name = n
        · rw [decide_eq_true (show V.str c.name = V.str n by rw [e])]
          exact iteT ⟨_, rfl, k _ (.inr ⟨i, a, c, rfl, ha, hci, find_take hci hp (decide_eq_true e)⟩)⟩
        · rw [decide_eq_false (fun z => e (V.str.inj z))]
          exact iteF ⟨rfl, by rw [find_pre hci hp, if_neg (by rw [show isN n c = false from decide_eq_false e]; decide)], _, rfl⟩
      · rintro σ H' ⟨rfl, hp, y, rfl⟩
        rw [List.length_map] at hp
        exact fin hp
    · refine ⟨_, pss_cons (ps_if (pt_not (pt_val (pe_callB call_isi (by rfl) (fr_isinstance T) (by decide +kernel) (pa_cons (pv 1) (pa_cons (pe_bltn (v := .ty "str") (by rfl) (fr_str T) (by decide +kernel) rfl) pa_nil))))) (pss_one (ps_ret pe_non)) pss_nil)
        (pss_cons (ps_for PassesOwn.never rfl (pi_tup (pv 0)) (pg_name (i := 2) nd rfl (Or.inl rfl)) (pss_one (ps_if (pt_cmpR op_eq (pe_fld (pv 2) rfl) (pv 1) (nomark _)) (pss_one (ps_ret (pv 2))) pss_nil))) (pss_one (ps_ret pe_non))), ?_⟩
      refine ⟨_, rfl, .str n, .ty "str", _, _, true, rfl, .ty "str", .base (.str n), kit_ty (by decide +kernel), _, rfl, iteF ⟨_, rfl, l, rfl, ⟨_, hl⟩, ?_⟩⟩
      refine for_tup (xs := as.map V.ref) (fun i σ H' => H' = H ∧ (cs.take i).find? (isN n) = none ∧ ∃ y, σ = [some (.ref l), some (.str n), y]) ⟨rfl, rfl, _, rfl⟩ (fun i σ H' _ h => by rw [h.1]; exact hl) ?_ ?_
      · rintro i x σ H' hx ⟨rfl, hp, y, rfl⟩
        obtain ⟨a, c, dx, rfl, ha, hci, hat⟩ := turn i x y hx hp
        refine ⟨_, rfl, a, _, dx, _, _, rfl, hat, cl_Column T, na_Column_name T, colFs_name, _, rfl, rfl, _, rfl, ?_⟩
        by_cases e : c.name = n
        · rw [decide_eq_true (show V.str c.name = V.str n by rw [e])]
          exact iteT ⟨_, rfl, k _ (.inr ⟨i, a, c, rfl, ha, hci, find_take hci hp (decide_eq_true e)⟩)⟩
        · rw [decide_eq_false (fun z => e (V.str.inj z))]
          exact iteF ⟨rfl, by rw [find_pre hci hp, if_neg (by rw [show isN n c = false from decide_eq_false e]; decide)], _, rfl⟩
      · rintro σ H' ⟨rfl, hp, y, rfl⟩
        rw [List.length_map] at hp
        exact fin hp
/-! the changes as data -/
inductive Ch where
  | add (n : Str) (g : Int) (d : V)
  | drop (n : Str)
  | rename (n m : Str)
  | dflt (n : Str) (v : V)
  | great (n : Str) (g : Int) (way : Str)
  | fill (n : Str) (i : Int)
def Ch.toV : Ch → List V
  | .add n g d => [.str "add", .str n, .int g, d]
  | .drop n => [.str "drop", .str n]
  | .rename n m => [.str "rename", .str n, .str m]
  | .dflt n v => [.str "default", .str n, v]
  | .great n g way => [.str "greatest", .str n, .int g, .str way]
  | .fill n i => [.str "fill", .str n, .int i]
def isWy (z : Str) : Bool := decide (z = "cut") || (decide (z = "none") || decide (z = "refuse"))
/-- a change by its form -/
def Ch.fits : Ch → Bool
  | .add n g d => isNm (.str n) && (isGr (.int g) && isVal d)
  | .drop n => isNm (.str n)
  | .rename n m => isNm (.str n) && isNm (.str m)
  | .dflt n v => isNm (.str n) && isVal v
  | .great n g way => isNm (.str n) && (isGr (.int g) && isWy way)
  | .fill n i => isNm (.str n) && decide (0 ≤ i)
def Ch.name : Ch → Str
  | .add n _ _ => n
  | .drop n => n
  | .rename n _ => n
  | .dflt n _ => n
  | .great n _ _ => n
  | .fill n _ => n
def Ch.kind : Ch → Str
  | .add _ _ _ => "add"
  | .drop _ => "drop"
  | .rename _ _ => "rename"
  | .dflt _ _ => "default"
  | .great _ _ _ => "greatest"
  | .fill _ _ => "fill"
theorem Ch.at0 (c : Ch) : atI c.toV 0 = some (.str c.kind) := by cases c <;> rfl
theorem Ch.at1 (c : Ch) : atI c.toV 1 = some (.str c.name) := by cases c <;> rfl
/-! is_way -/
def sp_is_way : Sp := fun vs H Q _ => ∃ z : Str, vs = [.str z] ∧ isWy z = true ∧ Q (.bl true) H
theorem ok_is_way (T : Tx K mg) : Callee P w K mg base CX0 2 "is_way" ["value"] [] sp_is_way := by
  have C1 := ok_is_word (P := P) (w := w) (base := base) T
  refine mkCallee (fd_is_way T) (mg_is_way T) sc_is_way (fun _ _ _ _ _ _ us hl => match us, hl with | [_], _ => rfl) (fun vs H Q E h => ?_) (fun cdv A outer s H vs Q E hr h => ?_)
  · obtain ⟨z, rfl, _⟩ := h
    rfl
  · obtain ⟨z, rfl, hz, k⟩ := h
    refine ⟨_, pss_one (ps_ret (pcall C1 hr (pa_cons (pv 0) (pa_cons (pe_glob (v := .ref (He.ga K "WAYS")) (by rfl) (mg_WAYS T) rfl) pa_nil)))), ?_⟩
    have hw : SqT K H (He.ga K "WAYS") [.str "cut", .str "none", .str "refuse"] := He.tupB_ok (ex_WAYS T) H
    refine ⟨_, rfl, .str z, _, _, _, rfl, .base (.str z), hw, rfl, ?_⟩
    have e : wordV (.str z) [.str "cut", .str "none", .str "refuse"] = true := by
      have h' : (decide (z = "cut") || (decide (z = "none") || decide (z = "refuse"))) = true := hz
      show (("cut" : Str) == z || (("none" : Str) == z || (("refuse" : Str) == z || false))) = true
      rw [Bool.or_eq_true, Bool.or_eq_true, decide_eq_true_iff, decide_eq_true_iff, decide_eq_true_iff] at h'
      rcases h' with rfl | rfl | rfl <;> simp
    rw [e]
    exact k
/-! is_single_part, at what fits -/
def sp_is_single_part : Sp := fun vs H Q _ => ∃ (kd : Str) (x : V), vs = [.str kd, x] ∧ ((kd = "rename" ∧ isNm x = true) ∨ (kd = "default" ∧ isVal x = true) ∨ (kd = "fill" ∧ ∃ i, x = .int i ∧ 0 ≤ i)) ∧ ∀ H', Same H H' → Q (.bl true) H'
theorem ok_is_single_part (T : Tx K mg) : Callee P w K mg base CX0 3 "is_single_part" ["kind", "part"] [] sp_is_single_part := by
  have C1 := (ok_is_name (P := P) (w := w) (base := base) T).up (show 1 ≤ 2 by decide)
  have C2 := ok_is_value (P := P) (w := w) (base := base) T
  have C3 := (ok_is_whole (P := P) (w := w) (base := base) T).up (show 1 ≤ 2 by decide)
  refine mkCallee (fd_is_single_part T) (mg_is_single_part T) sc_is_single_part (fun _ _ _ _ _ _ us hl => match us, hl with | [_, _], _ => rfl) (fun vs H Q E h => ?_) (fun cdv A outer s H vs Q E hr h => ?_)
  · obtain ⟨kd, x, rfl, _⟩ := h
    rfl
  · obtain ⟨kd, x, rfl, hx, k⟩ := h
    refine ⟨_, pss_cons (ps_if (pt_cmpR op_eq (pv 0) pe_str (nomark _)) (pss_one (ps_ret (pcall C1 hr (pa_cons (pv 1) pa_nil)))) pss_nil)
      (pss_cons (ps_if (pt_cmpR op_eq (pv 0) pe_str (nomark _)) (pss_one (ps_ret (pcall C2 hr (pa_cons (pv 1) pa_nil)))) pss_nil)
      (pss_one (ps_ret (pe_and (pcall C3 hr (pa_cons (pv 1) pa_nil)) (pe_one (pe_cmpR op_ge (pv 1) pe_int (nomark _))))))), ?_⟩
    refine ⟨_, rfl, rfl, _, rfl, ?_⟩
    rcases hx with ⟨rfl, hx⟩ | ⟨rfl, hx⟩ | ⟨rfl, i, rfl, hi⟩
    · rw [decide_eq_true rfl]
      cases x with
      | str z => exact iteT ⟨_, rfl, .str z, _, rfl, .base (.str z), fun m e => by cases e; exact nm_len hx, fun H' s' => by rw [hx]; exact k H' s'⟩
      | _ => cases hx
    · rw [decide_eq_false (by decide +kernel)]
      refine iteF ⟨_, rfl, rfl, _, rfl, ?_⟩
      rw [decide_eq_true rfl]
      cases x with
      | non => exact iteT ⟨_, rfl, .non, _, rfl, .base .non, k H (Same.refl _)⟩
      | int i => exact iteT ⟨_, rfl, .int i, _, rfl, .base (.int i), by rw [hx]; exact k H (Same.refl _)⟩
      | _ => cases hx
    · rw [decide_eq_false (by decide +kernel)]
      refine iteF ⟨_, rfl, rfl, _, rfl, ?_⟩
      rw [decide_eq_false (by decide +kernel)]
      refine iteF ⟨_, rfl, .int i, _, rfl, .base (.int i), _, rfl, iteT ⟨_, rfl, _, _, rfl, rfl, ?_⟩⟩
      show Q (.bl (decide (0 ≤ i))) H
      rw [decide_eq_true hi]
      exact k H (Same.refl _)
/-! has_parts, at what fits: the parts behind the first name -/
def sp_has_parts (K : PySem.W.Frag) : Sp := fun vs H Q _ => ∃ (t : Addr) (c : Ch), vs = [.str c.kind, .ref t] ∧ SqT K H t (c.toV.drop 2) ∧ c.fits = true ∧ ∀ H', Same H H' → Q (.bl true) H'
theorem ok_has_parts (T : Tx K mg) : Callee P w K mg base CX0 4 "has_parts" ["kind", "parts"] [] (sp_has_parts K) := by
  have C1 := ok_is_single_part (P := P) (w := w) (base := base) T
  have C2 := (ok_is_greatest (P := P) (w := w) (base := base) T).up (show 2 ≤ 3 by decide)
  have C3 := (ok_is_value (P := P) (w := w) (base := base) T).up (show 2 ≤ 3 by decide)
  have C4 := (ok_is_way (P := P) (w := w) (base := base) T).up (show 2 ≤ 3 by decide)
  refine mkCallee (fd_has_parts T) (mg_has_parts T) sc_has_parts (fun _ _ _ _ _ _ us hl => match us, hl with | [_, _], _ => rfl) (fun vs H Q E h => ?_) (fun cdv A outer s H vs Q E hr h => ?_)
  · obtain ⟨t, c, rfl, _⟩ := h
    rfl
  · obtain ⟨t, c, rfl, ht, hf, k⟩ := h
    have gl : mg "len" = none := fr_len T
    refine ⟨_, pss_cons (ps_if (pt_cmpR op_eq (pv 0) pe_str (nomark _)) (pss_one (ps_ret (pe_cmpR op_eq (pe_callB call_len (by rfl) gl PySem.boot_len (pa_cons (pv 1) pa_nil)) pe_int (nomark _)))) pss_nil)
      (pss_cons (ps_if (pt_cmpR op_in_seq (pv 0) (pe_tup (pa_cons pe_str (pa_cons pe_str (pa_cons pe_str pa_nil)))) (by rfl)) (pss_one (ps_ret (pe_and (pe_cmpR op_eq (pe_callB call_len (by rfl) gl PySem.boot_len (pa_cons (pv 1) pa_nil)) pe_int (nomark _))
          (pe_one (pcall C1 hr (pa_cons (pv 0) (pa_cons (pe_ix ix_tup (pv 1) pe_int (fun _ _ => rfl)) pa_nil))))))) pss_nil)
      (pss_cons (ps_if (pt_cmpR op_eq (pv 0) pe_str (nomark _)) (pss_one (ps_ret (pe_and (pe_cmpR op_eq (pe_callB call_len (by rfl) gl PySem.boot_len (pa_cons (pv 1) pa_nil)) pe_int (nomark _))
          (pe_and (pcall C2 hr (pa_cons (pe_ix ix_tup (pv 1) pe_int (fun _ _ => rfl)) pa_nil)) (pe_one (pcall C3 hr (pa_cons (pe_ix ix_tup (pv 1) pe_int (fun _ _ => rfl)) pa_nil))))))) pss_nil)
      (pss_cons (ps_if (pt_cmpR op_eq (pv 0) pe_str (nomark _)) (pss_one (ps_ret (pe_and (pe_cmpR op_eq (pe_callB call_len (by rfl) gl PySem.boot_len (pa_cons (pv 1) pa_nil)) pe_int (nomark _))
          (pe_and (pcall C2 hr (pa_cons (pe_ix ix_tup (pv 1) pe_int (fun _ _ => rfl)) pa_nil)) (pe_one (pcall C4 hr (pa_cons (pe_ix ix_tup (pv 1) pe_int (fun _ _ => rfl)) pa_nil))))))) pss_nil)
      (pss_one (ps_ret pe_bl))))), ?_⟩
    cases c with
    | drop n =>
      refine ⟨_, rfl, rfl, _, rfl, iteT ⟨_, rfl, _, 0, rfl, .inr ⟨_, ht, rfl⟩, rfl, ?_⟩⟩
      exact k H (Same.refl _)
    | rename n m =>
      have hf' : (isNm (.str n) && isNm (.str m)) = true := hf
      rw [Bool.and_eq_true] at hf'
      refine ⟨_, rfl, rfl, _, rfl, ?_⟩
      refine iteD (nes (show ("rename" : Str) ≠ "drop" by decide +kernel)) ⟨_, rfl, (by show 3 ≤ sizeLine; decide), fun t2 nt2 => ⟨t2, _, rfl, .inr (sqT_of upd_same), rfl, rfl, _, rfl, iteT ?_⟩⟩
      have s2 := same_new (o := .tup [V.str "rename", .str "default", .str "fill"]) nt2
      refine ⟨_, rfl, _, 1, rfl, .inr ⟨_, same_tup s2 ht, rfl⟩, rfl, _, rfl, iteT ⟨_, rfl, _, rfl, t, _, 0, _, rfl, rfl, same_tup s2 ht, rfl, _, _, rfl, .inl ⟨rfl, hf'.2⟩, fun H' s' => k H' (s2.trans s')⟩⟩
    | dflt n v =>
      have hf' : (isNm (.str n) && isVal v) = true := hf
      rw [Bool.and_eq_true] at hf'
      refine ⟨_, rfl, rfl, _, rfl, ?_⟩
      refine iteD (nes (show ("default" : Str) ≠ "drop" by decide +kernel)) ⟨_, rfl, (by show 3 ≤ sizeLine; decide), fun t2 nt2 => ⟨t2, _, rfl, .inr (sqT_of upd_same), rfl, rfl, _, rfl, iteT ?_⟩⟩
      have s2 := same_new (o := .tup [V.str "rename", .str "default", .str "fill"]) nt2
      refine ⟨_, rfl, _, 1, rfl, .inr ⟨_, same_tup s2 ht, rfl⟩, rfl, _, rfl, iteT ⟨_, rfl, _, rfl, t, _, 0, _, rfl, rfl, same_tup s2 ht, rfl, _, _, rfl, .inr (.inl ⟨rfl, hf'.2⟩), fun H' s' => k H' (s2.trans s')⟩⟩
    | fill n i =>
      have hf' : (isNm (.str n) && decide (0 ≤ i)) = true := hf
      rw [Bool.and_eq_true] at hf'
      refine ⟨_, rfl, rfl, _, rfl, ?_⟩
      refine iteD (nes (show ("fill" : Str) ≠ "drop" by decide +kernel)) ⟨_, rfl, (by show 3 ≤ sizeLine; decide), fun t2 nt2 => ⟨t2, _, rfl, .inr (sqT_of upd_same), rfl, rfl, _, rfl, iteT ?_⟩⟩
      have s2 := same_new (o := .tup [V.str "rename", .str "default", .str "fill"]) nt2
      refine ⟨_, rfl, _, 1, rfl, .inr ⟨_, same_tup s2 ht, rfl⟩, rfl, _, rfl, iteT ⟨_, rfl, _, rfl, t, _, 0, _, rfl, rfl, same_tup s2 ht, rfl, _, _, rfl, .inr (.inr ⟨rfl, i, rfl, of_decide_eq_true hf'.2⟩), fun H' s' => k H' (s2.trans s')⟩⟩
    | add n g d =>
      have hf' : (isNm (.str n) && (isGr (.int g) && isVal d)) = true := hf
      rw [Bool.and_eq_true, Bool.and_eq_true] at hf'
      refine ⟨_, rfl, rfl, _, rfl, ?_⟩
      refine iteD (nes (show ("add" : Str) ≠ "drop" by decide +kernel)) ⟨_, rfl, (by show 3 ≤ sizeLine; decide), fun t2 nt2 => ⟨t2, _, rfl, .inr (sqT_of upd_same), rfl, rfl, _, rfl, iteF ?_⟩⟩
      have s2 := same_new (o := .tup [V.str "rename", .str "default", .str "fill"]) nt2
      refine ⟨_, rfl, rfl, _, rfl, iteT ⟨_, rfl, _, 2, rfl, .inr ⟨_, same_tup s2 ht, rfl⟩, rfl, _, rfl, iteT ⟨_, rfl, t, _, 0, _, rfl, rfl, same_tup s2 ht, rfl, .int g, _, rfl, .base (.int g), _, rfl, ?_⟩⟩⟩
      rw [hf'.2.1]
      have td : ∃ ty, TyX K (upd H t2 (.tup [V.str "rename", .str "default", .str "fill"])) d (.type ty) := by
        cases d with
        | non => exact ⟨_, .base .non⟩
        | int i => exact ⟨_, .base (.int i)⟩
        | _ => cases hf'.2.2
      obtain ⟨ty, td⟩ := td
      refine iteT ⟨_, rfl, t, _, 1, _, rfl, rfl, same_tup s2 ht, rfl, d, ty, rfl, td, ?_⟩
      rw [hf'.2.2]
      exact k _ s2
    | great n g way =>
      have hf' : (isNm (.str n) && (isGr (.int g) && isWy way)) = true := hf
      rw [Bool.and_eq_true, Bool.and_eq_true] at hf'
      refine ⟨_, rfl, rfl, _, rfl, ?_⟩
      refine iteD (nes (show ("greatest" : Str) ≠ "drop" by decide +kernel)) ⟨_, rfl, (by show 3 ≤ sizeLine; decide), fun t2 nt2 => ⟨t2, _, rfl, .inr (sqT_of upd_same), rfl, rfl, _, rfl, iteF ?_⟩⟩
      have s2 := same_new (o := .tup [V.str "rename", .str "default", .str "fill"]) nt2
      refine ⟨_, rfl, rfl, _, rfl, ?_⟩
      refine iteD (nes (show ("greatest" : Str) ≠ "add" by decide +kernel)) ⟨_, rfl, rfl, _, rfl, iteT ⟨_, rfl, _, 2, rfl, .inr ⟨_, same_tup s2 ht, rfl⟩, rfl, _, rfl, iteT ⟨_, rfl, t, _, 0, _, rfl, rfl, same_tup s2 ht, rfl, .int g, _, rfl, .base (.int g), _, rfl, ?_⟩⟩⟩
      rw [hf'.2.1]
      exact iteT ⟨_, rfl, t, _, 1, _, rfl, rfl, same_tup s2 ht, rfl, way, rfl, hf'.2.2, k _ s2⟩
/-! is_change, at what fits -/
/-- a change stands at t -/
def ChAt (K : PySem.W.Frag) (H : Hp) (t : Addr) (c : Ch) : Prop := SqT K H t c.toV
theorem ChAt.keep {K : PySem.W.Frag} {H H' : Hp} {t : Addr} {c : Ch} (s : Same H H') (h : ChAt K H t c) : ChAt K H' t c := same_tup s h
theorem Ch.nm {c : Ch} (h : c.fits = true) : isNm (.str c.name) = true := by
  cases c <;> first | exact h | exact (Bool.and_eq_true_iff.mp h).1
theorem Ch.len (c : Ch) : 2 ≤ c.toV.length := by cases c <;> simp [Ch.toV]
theorem sqT_tup {K : PySem.W.Frag} {H : Hp} {a : Addr} {xs : List V} (h : SqT K H a xs) : TyX K H (.ref a) (.type "tuple") := by
  rcases h with (h | ⟨o, h⟩) | ⟨o, its, n, h, hc, _⟩
  · exact .base (.tup h)
  · exact .fTuple h
  · exact .kTuple h hc
def sp_is_change (K : PySem.W.Frag) : Sp := fun vs H Q _ => ∃ (t : Addr) (c : Ch), vs = [.ref t] ∧ ChAt K H t c ∧ c.fits = true ∧ ∀ H', Same H H' → Q (.bl true) H'
theorem six2 {n : Nat} (h : 2 ≤ n) : HT.sIx n 0 (some 2) = 2 := by
  have e := HT.sIx_nat n 0 2
  have e2 : ((2 : Nat) : Int) = 2 := rfl
  rw [e2] at e
  rw [e]
  omega
theorem cut2 (c : Ch) : cutV c.toV (some 2) none = c.toV.drop 2 := by
  have h := c.len
  unfold cutV
  rw [six2 h, HT.sIx_none]
  exact List.take_of_length_le (by rw [List.length_drop]; exact Nat.le_refl _)
theorem ok_is_change (T : Tx K mg) : Callee P w K mg base CX0 5 "is_change" ["value"] [] (sp_is_change K) := by
  have C1 := (ok_is_name (P := P) (w := w) (base := base) T).up (show 1 ≤ 4 by decide)
  have C2 := ok_has_parts (P := P) (w := w) (base := base) T
  refine mkCallee (fd_is_change T) (mg_is_change T) sc_is_change (fun _ _ _ _ _ _ us hl => match us, hl with | [_], _ => rfl) (fun vs H Q E h => ?_) (fun cdv A outer s H vs Q E hr h => ?_)
  · obtain ⟨t, c, rfl, _⟩ := h
    rfl
  · obtain ⟨t, c, rfl, ht, hf, k⟩ := h
    refine ⟨_, pss_cons (ps_if (PW.pt (pw_or (pt_not (pt_val (pe_callB call_isi (by rfl) (fr_isinstance T) (by decide +kernel) (pa_cons (pv 0) (pa_cons (pe_bltn (v := .ty "tuple") (by rfl) (fr_tuple T) (by decide +kernel) rfl) pa_nil)))))
        (pw_or1 (pt_cmpR op_lt (pe_callB call_len (by rfl) (fr_len T) PySem.boot_len (pa_cons (pv 0) pa_nil)) pe_int (nomark _))))) (pss_one (ps_ret pe_bl)) pss_nil)
      (pss_one (ps_ret (pe_and (pe_callB call_isi (by rfl) (fr_isinstance T) (by decide +kernel) (pa_cons (pe_ix ix_tup (pv 0) pe_int (fun _ _ => rfl)) (pa_cons (pe_bltn (v := .ty "str") (by rfl) (fr_str T) (by decide +kernel) rfl) pa_nil)))
        (pe_and (pcall C1 hr (pa_cons (pe_ix ix_tup (pv 0) pe_int (fun _ _ => rfl)) pa_nil)) (pe_one (pcall C2 hr (pa_cons (pe_ix ix_tup (pv 0) pe_int (fun _ _ => rfl)) (pa_cons (pe_slice sl_tup (pv 0) (po_some pe_int) po_none) pa_nil)))))))), ?_⟩
    have hl := c.len
    refine ⟨_, rfl, .ref t, .ty "tuple", _, _, true, rfl, .ty "tuple", sqT_tup ht, kit_ty (by decide +kernel), _, rfl, iteF ⟨_, rfl, _, c.toV.length, rfl, .inr ⟨_, ht, rfl⟩, _, _, rfl, rfl, _, rfl, iteD (by omega) ?_⟩⟩
    refine ⟨_, rfl, t, _, 0, _, rfl, rfl, ht, c.at0, .str c.kind, .ty "str", _, _, true, rfl, .ty "str", .base (.str _), kit_ty (by decide +kernel), _, rfl, iteT ?_⟩
    have hn := Ch.nm hf
    refine ⟨_, rfl, t, _, 1, _, rfl, rfl, ht, c.at1, .str c.name, _, rfl, .base (.str _), fun n e => by cases e; exact nm_len hn, fun H1 s1 => ⟨_, rfl, ?_⟩⟩
    rw [hn]
    refine iteT ⟨_, rfl, t, _, 0, _, rfl, rfl, same_tup s1 ht, c.at0, _, rfl, 2, rfl, t, _, rfl, same_tup s1 ht, fun z => by rw [six2 hl] at z; exact absurd z.1 (by decide), fun p np => ?_⟩
    rw [cut2]
    exact ⟨p, c, rfl, sqT_of upd_same, hf, fun H' s' => k H' ((s1.trans (same_new np)).trans s')⟩
/-! value_above -/
/-- what a value above becomes -/
def abv (g : Int) (way : Str) : V := if way = "cut" then .int g else if way = "none" then .non else .str "missing"
def sp_value_above (K : PySem.W.Frag) : Sp := fun vs H Q _ => ∃ (t : Addr) (n way : Str) (g : Int), vs = [.ref t] ∧ ChAt K H t (.great n g way) ∧ Q (abv g way) H
theorem ok_value_above (T : Tx K mg) : Callee P w K mg base CX0 1 "value_above" ["change"] [] (sp_value_above K) := by
  refine mkCallee (fd_value_above T) (mg_value_above T) sc_value_above (fun _ _ _ _ _ _ us hl => match us, hl with | [_], _ => rfl) (fun vs H Q E h => ?_) (fun cdv A outer s H vs Q E hr h => ?_)
  · obtain ⟨t, n, way, g, rfl, _⟩ := h
    rfl
  · obtain ⟨t, n, way, g, rfl, ht, k⟩ := h
    obtain ⟨tk, gM⟩ := ms_MISSING T
    refine ⟨_, pss_cons (ps_if (pt_cmpR op_eq (pe_ix ix_tup (pv 0) pe_int (fun _ _ => rfl)) pe_str (nomark _)) (pss_one (ps_ret (pe_ix ix_tup (pv 0) pe_int (fun _ _ => rfl)))) pss_nil)
      (pss_cons (ps_if (pt_cmpR op_eq (pe_ix ix_tup (pv 0) pe_int (fun _ _ => rfl)) pe_str (nomark _)) (pss_one (ps_ret pe_non)) pss_nil) (pss_one (ps_ret (pe_glob (v := .str "missing") (by rfl) gM ⟨_, rfl⟩)))), ?_⟩
    have i3 : atI (Ch.great n g way).toV 3 = some (.str way) := rfl
    have i2 : atI (Ch.great n g way).toV 2 = some (.int g) := rfl
    refine ⟨_, rfl, t, _, 3, _, rfl, rfl, ht, i3, rfl, _, rfl, ?_⟩
    unfold abv at k
    by_cases h1 : way = "cut"
    · rw [if_pos h1] at k
      subst h1
      exact iteDT rfl ⟨_, rfl, t, _, 2, _, rfl, rfl, ht, i2, k⟩
    · rw [if_neg h1] at k
      refine iteD (nes h1) ⟨_, rfl, t, _, 3, _, rfl, rfl, ht, i3, rfl, _, rfl, ?_⟩
      by_cases h2 : way = "none"
      · rw [if_pos h2] at k
        subst h2
        exact iteDT rfl k
      · rw [if_neg h2] at k
        exact iteD (nes h2) k
/-! None or an int -/
/-- None or an int -/
def valOk : V → Bool
  | .non => true
  | .int _ => true
  | _ => false

/-! changed_value -/
/-- what a value of a column of this name becomes -/
def chgV (n : Str) (c : Ch) (v : V) : V := if c.name = n then (match c, v with
  | .fill _ i, .non => .int i
  | .great _ g way, .int j => if g < j then abv g way else .int j
  | _, v => v) else v
def sp_changed_value (K : PySem.W.Frag) : Sp := fun vs H Q _ => ∃ (a t : Addr) (n : Str) (g k : Int) (d v : V) (c : Ch), vs = [.ref a, .ref t, v] ∧ ColAt K H a n g d k ∧ ChAt K H t c ∧ valOk v = true ∧ Q (chgV n c v) H
theorem ok_changed_value (T : Tx K mg) : Callee P w K mg base CX0 2 "changed_value" ["column", "change", "value"] [] (sp_changed_value K) := by
  have C1 := ok_value_above (P := P) (w := w) (base := base) T
  refine mkCallee (fd_changed_value T) (mg_changed_value T) sc_changed_value (fun _ _ _ _ _ _ us hl => match us, hl with | [_, _, _], _ => rfl) (fun vs H Q E h => ?_) (fun cdv A outer s H vs Q E hr h => ?_)
  · obtain ⟨a, t, n, g, k, d, v, c, rfl, _⟩ := h
    rfl
  · obtain ⟨a, t, n, g, k, d, v, c, rfl, ⟨dx, ha⟩, ht, hv, kk⟩ := h
    refine ⟨_, pss_cons (ps_if (pt_cmpR op_ne (pe_ix ix_tup (pv 1) pe_int (fun _ _ => rfl)) (pe_fld (pv 0) rfl) (nomark _)) (pss_one (ps_ret (pv 2))) pss_nil)
      (pss_cons (ps_if (PW.pt (pw_and (pt_cmpR op_eq (pe_ix ix_tup (pv 1) pe_int (fun _ _ => rfl)) pe_str (nomark _)) (pw_and1 (pt_cmpR op_isN (pv 2) pe_non (nomark _))))) (pss_one (ps_ret (pe_ix ix_tup (pv 1) pe_int (fun _ _ => rfl)))) pss_nil)
      (pss_cons (ps_if (PW.pt (pw_and (pt_cmpR op_eq (pe_ix ix_tup (pv 1) pe_int (fun _ _ => rfl)) pe_str (nomark _)) (pw_and (pt_cmpR op_notN (pv 2) pe_non (nomark _)) (pw_and1 (pt_cmpR op_gt (pv 2) (pe_ix ix_tup (pv 1) pe_int (fun _ _ => rfl)) (nomark _))))))
        (pss_one (ps_ret (pcall C1 hr (pa_cons (pv 1) pa_nil)))) pss_nil)
      (pss_one (ps_ret (pv 2))))), ?_⟩
    refine ⟨_, rfl, t, _, 1, _, rfl, rfl, ht, c.at1, _, rfl, a, _, dx, _, _, rfl, ha, cl_Column T, na_Column_name T, colFs_name, rfl, _, rfl, ?_⟩
    unfold chgV at kk
    by_cases hn : c.name = n
    · rw [if_pos hn] at kk
      refine iteNS (by rw [hn]) ?_
      cases c with
      | add n2 g2 d2 =>
        refine ⟨_, rfl, t, _, 0, _, rfl, rfl, ht, rfl, rfl, _, rfl, iteD (nes (show ("add" : Str) ≠ "fill" by decide +kernel)) (iteF ?_)⟩
        exact ⟨_, rfl, t, _, 0, _, rfl, rfl, ht, rfl, rfl, _, rfl, iteD (nes (show ("add" : Str) ≠ "greatest" by decide +kernel)) (iteF ⟨_, rfl, kk⟩)⟩
      | drop n2 =>
        refine ⟨_, rfl, t, _, 0, _, rfl, rfl, ht, rfl, rfl, _, rfl, iteD (nes (show ("drop" : Str) ≠ "fill" by decide +kernel)) (iteF ?_)⟩
        exact ⟨_, rfl, t, _, 0, _, rfl, rfl, ht, rfl, rfl, _, rfl, iteD (nes (show ("drop" : Str) ≠ "greatest" by decide +kernel)) (iteF ⟨_, rfl, kk⟩)⟩
      | rename n2 m2 =>
        refine ⟨_, rfl, t, _, 0, _, rfl, rfl, ht, rfl, rfl, _, rfl, iteD (nes (show ("rename" : Str) ≠ "fill" by decide +kernel)) (iteF ?_)⟩
        exact ⟨_, rfl, t, _, 0, _, rfl, rfl, ht, rfl, rfl, _, rfl, iteD (nes (show ("rename" : Str) ≠ "greatest" by decide +kernel)) (iteF ⟨_, rfl, kk⟩)⟩
      | dflt n2 v2 =>
        refine ⟨_, rfl, t, _, 0, _, rfl, rfl, ht, rfl, rfl, _, rfl, iteD (nes (show ("default" : Str) ≠ "fill" by decide +kernel)) (iteF ?_)⟩
        exact ⟨_, rfl, t, _, 0, _, rfl, rfl, ht, rfl, rfl, _, rfl, iteD (nes (show ("default" : Str) ≠ "greatest" by decide +kernel)) (iteF ⟨_, rfl, kk⟩)⟩
      | fill n2 i =>
        refine ⟨_, rfl, t, _, 0, _, rfl, rfl, ht, rfl, rfl, _, rfl, iteDT rfl ⟨_, rfl, rfl, _, rfl, ?_⟩⟩
        cases v with
        | non => exact iteDT rfl ⟨_, rfl, t, _, 2, _, rfl, rfl, ht, rfl, kk⟩
        | int j =>
          refine iteD (by intro z; cases z) ?_
          exact ⟨_, rfl, t, _, 0, _, rfl, rfl, ht, rfl, rfl, _, rfl, iteD (nes (show ("fill" : Str) ≠ "greatest" by decide +kernel)) (iteF ⟨_, rfl, kk⟩)⟩
        | _ => cases hv
      | great n2 g2 way =>
        refine ⟨_, rfl, t, _, 0, _, rfl, rfl, ht, rfl, rfl, _, rfl, iteD (nes (show ("greatest" : Str) ≠ "fill" by decide +kernel)) (iteF ?_)⟩
        refine ⟨_, rfl, t, _, 0, _, rfl, rfl, ht, rfl, rfl, _, rfl, iteDT rfl ⟨_, rfl, rfl, _, rfl, ?_⟩⟩
        cases v with
        | non => exact iteNS rfl (iteF ⟨_, rfl, kk⟩)
        | int j =>
          refine iteNF (by intro z; cases z) ⟨_, rfl, _, rfl, t, _, 2, _, rfl, rfl, ht, rfl, _, _, rfl, rfl, _, rfl, ?_⟩
          by_cases hj : g2 < j
          · refine iteDT hj ⟨_, rfl, t, n2, way, g2, rfl, ht, ?_⟩
            have e : (if g2 < j then abv g2 way else V.int j) = abv g2 way := if_pos hj
            rw [← e]
            exact kk
          · refine iteD hj ⟨_, rfl, ?_⟩
            have e : (if g2 < j then abv g2 way else V.int j) = V.int j := if_neg hj
            rw [← e]
            exact kk
        | _ => cases hv
    · rw [if_neg hn] at kk
      exact iteNF (nes hn) ⟨_, rfl, kk⟩
-- needs: +COLS
/-! a column at an address -/
def ColA (K : PySem.W.Frag) (H : Hp) (a : Addr) (c : Col) : Prop := ColAt K H a c.name c.top c.dflt c.num
theorem ColA.keep {K : PySem.W.Frag} {H H' : Hp} {a : Addr} {c : Col} (s : Same H H') (h : ColA K H a c) : ColA K H' a c := h.imp fun _ e => s _ _ e
theorem ColA.keepNL {K : PySem.W.Frag} {H H' : Hp} {a : Addr} {c : Col} (s : KeepNL H H') (h : ColA K H a c) : ColA K H' a c := h.imp fun _ e => s _ _ (fun _ z => by cases z) e

/-! changed_column -/
/-- a column's parts fit -/
structure ColOk (c : Col) : Prop where
  nm : isNm (.str c.name) = true
  gr : isGr (.int c.top) = true
  df : isIn c.top c.dflt = true
  nu : 0 ≤ c.num
/-- what a change of a column that does not drop it makes of it -/
def chgC (c : Col) (ch : Ch) : Col := match ch with
  | .rename _ m => { c with name := m }
  | .dflt _ v => { c with dflt := v }
  | .great n g way => { c with top := g, dflt := chgV c.name (.great n g way) c.dflt }
  | _ => c
theorem isIn_ok {g : Int} {v : V} (h : isIn g v = true) : valOk v = true := by
  cases v with
  | non => rfl
  | int _ => rfl
  | _ => cases h
def sp_changed_column (K : PySem.W.Frag) : Sp := fun vs H Q _ => ∃ (a t : Addr) (c : Col) (ch : Ch), vs = [.ref a, .ref t] ∧ ColA K H a c ∧ ChAt K H t ch ∧ ColOk c ∧ ColOk (chgC c ch) ∧ ∀ (a' : Addr) (H' : Hp), Same H H' → ColA K H' a' (chgC c ch) → Q (.ref a') H'
theorem ok_changed_column (T : Tx K mg) : Callee P w K mg base CX0 7 "changed_column" ["column", "change"] [] (sp_changed_column K) := by
  obtain ⟨fdC, GC, bC⟩ := ok_changed (P := P) (w := w) (base := base) T
  obtain ⟨fdI, GI, FI⟩ := ok_Col_init (P := P) (w := w) (base := base) T
  obtain ⟨_, _, kb⟩ := kbinds_Col T FI
  have C1 := (ok_changed_value (P := P) (w := w) (base := base) T).up (show 2 ≤ 6 by decide)
  have cl := cl_Column T
  refine mkCallee (fd_changed_column T) (mg_changed_column T) sc_changed_column (fun _ _ _ _ _ _ us hl => match us, hl with | [_, _], _ => rfl) (fun vs H Q E h => ?_) (fun cdv A outer s H vs Q E hr h => ?_)
  · obtain ⟨a, t, c, ch, rfl, _⟩ := h
    rfl
  · obtain ⟨a, t, c, ch, rfl, ⟨dx, ha⟩, ht, ok1, ok2, k⟩ := h
    have nd := sc_changed_column.nd
    have lk : (colFs c.name c.top c.dflt c.num).lookup ("changed" : Str) = none := by
      have g1 : (("changed" : Str) == "name") = false := by decide +kernel
      have g2 : (("changed" : Str) == "greatest") = false := by decide +kernel
      have g3 : (("changed" : Str) == "default") = false := by decide +kernel
      have g4 : (("changed" : Str) == "number") = false := by decide +kernel
      unfold colFs
      simp [List.lookup, g1, g2, g3, g4]
    refine ⟨_, pss_cons (ps_set (i := 2) nd rfl (Or.inl rfl) (pe_ix ix_tup (pv 1) pe_int (fun _ _ => rfl)))
      (pss_cons (ps_if (pt_cmpR op_eq (pv 2) pe_str (nomark _)) (pss_one (ps_ret (pe_meth (pv 0) cl (me_Column_changed T) GC hr bC .nil pass0 (pa_cons pe_str (pa_cons (pe_ix ix_tup (pv 1) pe_int (fun _ _ => rfl)) pa_nil))))) pss_nil)
      (pss_cons (ps_if (pt_cmpR op_eq (pv 2) pe_str (nomark _)) (pss_one (ps_ret (pe_meth (pv 0) cl (me_Column_changed T) GC hr bC .nil pass0 (pa_cons pe_str (pa_cons (pe_ix ix_tup (pv 1) pe_int (fun _ _ => rfl)) pa_nil))))) pss_nil)
      (pss_cons (ps_if (pt_cmpR op_eq (pv 2) pe_str (nomark _)) (pss_cons (ps_set (i := 3) nd rfl (Or.inl rfl) (pcall C1 hr (pa_cons (pv 0) (pa_cons (pv 1) (pa_cons (pe_fld (pv 0) rfl) pa_nil)))))
          (pss_one (ps_ret (pe_makeK (mk_Column T) GI (hr.mono (by decide)) (by rfl) (mg_Column T) kb pass0 (pa_cons (pe_fld (pv 0) rfl) (pa_cons (pe_ix ix_tup (pv 1) pe_int (fun _ _ => rfl)) (pa_cons (pv 3) pa_nil))) (pk_cons (pe_fld (pv 0) rfl) pk_nil))))) pss_nil)
      (pss_one (ps_ret (pv 0)))))), ?_⟩
    refine ⟨_, rfl, t, _, 0, _, rfl, rfl, ht, ch.at0, _, rfl, rfl, _, rfl, ?_⟩
    have dv := isIn_ok ok1.df
    cases ch with
    | add n g d =>
      refine iteD (nes (show ("add" : Str) ≠ "rename" by decide +kernel)) ⟨_, rfl, rfl, _, rfl, iteD (nes (show ("add" : Str) ≠ "default" by decide +kernel)) ⟨_, rfl, rfl, _, rfl, iteD (nes (show ("add" : Str) ≠ "greatest" by decide +kernel)) ⟨_, rfl, k a H (Same.refl _) ⟨dx, ha⟩⟩⟩⟩
    | drop n =>
      refine iteD (nes (show ("drop" : Str) ≠ "rename" by decide +kernel)) ⟨_, rfl, rfl, _, rfl, iteD (nes (show ("drop" : Str) ≠ "default" by decide +kernel)) ⟨_, rfl, rfl, _, rfl, iteD (nes (show ("drop" : Str) ≠ "greatest" by decide +kernel)) ⟨_, rfl, k a H (Same.refl _) ⟨dx, ha⟩⟩⟩⟩
    | fill n i =>
      refine iteD (nes (show ("fill" : Str) ≠ "rename" by decide +kernel)) ⟨_, rfl, rfl, _, rfl, iteD (nes (show ("fill" : Str) ≠ "default" by decide +kernel)) ⟨_, rfl, rfl, _, rfl, iteD (nes (show ("fill" : Str) ≠ "greatest" by decide +kernel)) ⟨_, rfl, k a H (Same.refl _) ⟨dx, ha⟩⟩⟩⟩
    | rename n m =>
      have i2 : atI (Ch.rename n m).toV 2 = some (.str m) := rfl
      refine iteDT rfl ⟨_, rfl, a, dx, _, rfl, ha, lk, _, rfl, t, _, 2, _, rfl, rfl, ht, i2, a, "name", c.name, m, c.top, c.num, c.top, c.num, c.dflt, c.dflt, .str m, rfl, ⟨dx, ha⟩, ⟨.inl rfl, by rw [if_pos rfl]⟩, ok2.nm, ok2.gr, ok2.df, ok2.nu, fun a' H' _ s' h' => k a' H' s' h'⟩
    | dflt n v =>
      have i2 : atI (Ch.dflt n v).toV 2 = some v := rfl
      refine iteD (nes (show ("default" : Str) ≠ "rename" by decide +kernel)) ⟨_, rfl, rfl, _, rfl, iteDT rfl ⟨_, rfl, a, dx, _, rfl, ha, lk, _, rfl, t, _, 2, _, rfl, rfl, ht, i2, a, "default", c.name, c.name, c.top, c.num, c.top, c.num, c.dflt, v, v, rfl, ⟨dx, ha⟩,
        ⟨.inr (.inr (.inl rfl)), by rw [if_neg (show ¬ ("default" : Str) = "name" by decide +kernel), if_neg (show ¬ ("default" : Str) = "greatest" by decide +kernel), if_pos rfl]⟩, ok2.nm, ok2.gr, ok2.df, ok2.nu, fun a' H' _ s' h' => k a' H' s' h'⟩⟩
    | great n g way =>
      have i2 : atI (Ch.great n g way).toV 2 = some (.int g) := rfl
      refine iteD (nes (show ("greatest" : Str) ≠ "rename" by decide +kernel)) ⟨_, rfl, rfl, _, rfl, iteD (nes (show ("greatest" : Str) ≠ "default" by decide +kernel)) ⟨_, rfl, rfl, _, rfl, iteDT rfl ?_⟩⟩
      refine ⟨_, rfl, _, rfl, _, rfl, a, _, dx, _, _, rfl, ha, cl, na_Column_default T, colFs_default, a, t, c.name, c.top, c.num, c.dflt, c.dflt, .great n g way, rfl, ⟨dx, ha⟩, ht, dv, ?_⟩
      refine ⟨_, rfl, a, _, dx, _, _, rfl, ha, cl, na_Column_name T, colFs_name, _, rfl, t, _, 2, _, rfl, rfl, ht, i2, _, rfl, _, rfl, a, _, dx, _, _, rfl, ha, cl, na_Column_number T, colFs_number, rfl, rfl, fun x dx2 nx ndx ndc => ?_⟩
      refine ⟨x, dx2, c.name, g, c.num, chgV c.name (.great n g way) c.dflt, rfl, upd_same, ok2.nm, ok2.gr, ok2.df, ok2.nu, fun H4 hc4 k4 => ⟨rfl, ?_⟩⟩
      exact k x H4 (fun b o e => k4 b o (ne_of_none e nx) (by rw [upd_ne (ne_of_none e nx), upd_ne (ne_of_none e ndx)]; exact e)) hc4
/-! values compared -/
theorem val_scal2 {v u : V} (h : isVal v = true) (g : isVal u = true) : scal v u = true := by
  cases v with
  | non => cases u with
    | non => rfl
    | int _ => rfl
    | _ => cases g
  | int _ => cases u with
    | non => rfl
    | int _ => rfl
    | _ => cases g
  | _ => cases h
theorem val_scal {v : V} (h : isVal v = true) : scal v v = true := by
  cases v with
  | non => rfl
  | int _ => rfl
  | _ => cases h
theorem in_val {g : Int} {v : V} (h : isIn g v = true) : isVal v = true := by
  cases v with
  | non => rfl
  | int i =>
    have h : (decide (0 ≤ i) && decide (i ≤ g)) = true := h
    exact (Bool.and_eq_true_iff.mp h).1
  | _ => cases h
theorem in_valOk {g : Int} {v : V} (h : isIn g v = true) : valOk v = true := by
  cases v with
  | non => rfl
  | int _ => rfl
  | _ => cases h

/-! column == column -/
def colEq (c d : Col) : Bool := decide (c.name = d.name) && (decide (c.top = d.top) && (decide (c.dflt = d.dflt) && decide (c.num = d.num)))
theorem colEq_self (c : Col) : colEq c c = true := by
  unfold colEq
  rw [decide_eq_true rfl, decide_eq_true rfl, decide_eq_true rfl, decide_eq_true rfl]
  rfl
def sp_Col_eq (K : PySem.W.Frag) : Sp := fun vs H Q _ => ∃ (a b : Addr) (c d : Col), vs = [.ref a, .ref b] ∧ ColA K H a c ∧ ColA K H b d ∧ isVal c.dflt = true ∧ isVal d.dflt = true ∧ Q (.bl (colEq c d)) H
theorem ok_Col_eq (T : Tx K mg) : ∃ fd, FnOk P w K mg base CX0 1 (He.ma K (He.ga K "Column") "__eq__") fd ["self", "other"] (sp_Col_eq K) ∧ Binds K fd ["self", "other"] [] := by
  have ic := insC_of (ex_Column T) (cl_Column T)
  have cl := cl_Column T
  refine mkMeth (fd_Column___eq__ T) sc_Column___eq__ (fun _ _ _ _ _ _ us hl => match us, hl with | [_, _], _ => rfl) (fun vs H Q E h => ?_) (fun cdv A outer s H vs Q E hr h => ?_)
  · obtain ⟨a, b, c, d, rfl, _⟩ := h
    rfl
  obtain ⟨a, b, c, d, rfl, ⟨dx, h1⟩, ⟨dy, h2⟩, v1, v2, k⟩ := h
  refine ⟨_, pss_one (ps_ret (pe_and (pe_callB (C8.call_isC ic) (by rfl) (fr_isinstance T) (by decide +kernel) (pa_cons (pv 1) (pa_cons (pe_glob (v := .ref (He.ga K "Column")) (by rfl) (mg_Column T) rfl) pa_nil)))
    (pe_and (pe_cmpR op_eq (pe_fld (pv 0) rfl) (pe_fld (pv 1) rfl) (nomark _)) (pe_and (pe_cmpR op_eq (pe_fld (pv 0) rfl) (pe_fld (pv 1) rfl) (nomark _)) (pe_and (pe_cmpR op_eq (pe_fld (pv 0) rfl) (pe_fld (pv 1) rfl) (nomark _)) (pe_one (pe_cmpR op_eq (pe_fld (pv 0) rfl) (pe_fld (pv 1) rfl) (nomark _)))))))), ?_⟩
  have dI : ∀ i j : Int, decide (V.int i = V.int j) = decide (i = j) := fun i j => by
    rw [Bool.eq_iff_iff, decide_eq_true_iff, decide_eq_true_iff]
    exact ⟨V.int.inj, congrArg _⟩
  have dS : ∀ i j : Str, decide (V.str i = V.str j) = decide (i = j) := fun i j => by
    rw [Bool.eq_iff_iff, decide_eq_true_iff, decide_eq_true_iff]
    exact ⟨V.str.inj, congrArg _⟩
  unfold colEq at k
  refine ⟨_, rfl, b, dy, _, rfl, h2, _, rfl, iteT ?_⟩
  refine ⟨_, rfl, a, _, dx, _, _, rfl, h1, cl, na_Column_name T, colFs_name, _, rfl, b, _, dy, _, _, rfl, h2, cl, na_Column_name T, colFs_name, rfl, _, rfl, ?_⟩
  rw [dS]
  cases e1 : decide (c.name = d.name) with
  | false =>
    rw [e1] at k
    exact iteF k
  | true =>
    rw [e1, Bool.true_and] at k
    refine iteT ⟨_, rfl, a, _, dx, _, _, rfl, h1, cl, na_Column_greatest T, colFs_greatest, _, rfl, b, _, dy, _, _, rfl, h2, cl, na_Column_greatest T, colFs_greatest, rfl, _, rfl, ?_⟩
    rw [dI]
    cases e2 : decide (c.top = d.top) with
    | false =>
      rw [e2] at k
      exact iteF k
    | true =>
      rw [e2, Bool.true_and] at k
      refine iteT ⟨_, rfl, a, _, dx, _, _, rfl, h1, cl, na_Column_default T, colFs_default, _, rfl, b, _, dy, _, _, rfl, h2, cl, na_Column_default T, colFs_default, val_scal2 v1 v2, _, rfl, ?_⟩
      cases e3 : decide (c.dflt = d.dflt) with
      | false =>
        rw [e3] at k
        exact iteF k
      | true =>
        rw [e3, Bool.true_and] at k
        refine iteT ⟨_, rfl, a, _, dx, _, _, rfl, h1, cl, na_Column_number T, colFs_number, _, rfl, b, _, dy, _, _, rfl, h2, cl, na_Column_number T, colFs_number, rfl, ?_⟩
        rw [dI]
        exact k
/-! Column.__contains__ -/
def sp_contains (K : PySem.W.Frag) : Sp := fun vs H Q _ => ∃ (c : Addr) (n : Str) (g k : Int) (d x : V) (t : String), vs = [.ref c, x] ∧ ColAt K H c n g d k ∧ TyX K H x (.type t) ∧ Q (.bl (isIn g x)) H
theorem ok_contains (T : Tx K mg) : ∃ fd, FnOk P w K mg base CX0 4 (He.ma K (He.ga K "Column") "__contains__") fd ["self", "x"] (sp_contains K) ∧ Binds K fd ["self", "x"] [] := by
  have C1 := ok_is_within (P := P) (w := w) (base := base) T
  obtain ⟨fd, F⟩ := fd_Column___contains__ T
  refine ⟨fd, F.ok (CX := CX0) sc_Column___contains__ (fun vs H Q E h => ?_) (fun cdv A outer s H vs Q E hr h => ?_), F.bindsN fun _ _ _ _ _ _ us hl => match us, hl with | [_, _], _ => rfl⟩
  · obtain ⟨c, n, g, k, d, x, t, rfl, _⟩ := h
    rfl
  suffices hh : ∃ t, PSs (cxOf CX0 P w K mg base ["self", "x"] "Column.__contains__" (defScope s_Column___contains__) (He.ma K (He.ga K "Column") "__contains__") cdv A outer s H E).nox (defBody s_Column___contains__) t ∧
      t { nx := fun _ H' => Q .non H', rt := Q } (start ["self", "x"] vs) H by
    obtain ⟨t, h1, h2⟩ := hh
    exact ⟨t, h1.nox, h2⟩
  obtain ⟨c, n, g, k, d, x, t, rfl, ⟨dx, hc⟩, ty, kk⟩ := h
  refine ⟨_, pss_one (ps_ret (pcall C1 hr (pa_cons (pv 1) (pa_cons (pe_fld (pv 0) rfl) pa_nil)))), ?_⟩
  exact ⟨_, rfl, _, rfl, c, _, dx, _, _, rfl, hc, cl_Column T, na_Column_greatest T, colFs_greatest, x, g, t, rfl, ty, kk⟩
/-! column_numbered, of an int -/
def isK (n : Int) (c : Col) : Bool := decide (c.num = n)
def Numbered (as : List Addr) (cs : List Col) (n : Int) (v : V) : Prop := (v = .non ∧ cs.find? (isK n) = none) ∨ ∃ (i : Nat) (a : Addr) (c : Col), v = .ref a ∧ as[i]? = some a ∧ cs[i]? = some c ∧ cs.find? (isK n) = some c
def sp_column_numbered (K : PySem.W.Frag) : Sp := fun vs H Q _ => ∃ (l : Addr) (as : List Addr) (cs : List Col) (n : Int), vs = [.ref l, .int n] ∧ SqL K H l (as.map V.ref) ∧ Cols K H as cs ∧ ∀ v, Numbered as cs n v → Q v H
theorem findk_pre {cs : List Col} {i : Nat} {c : Col} {n : Int} (h : cs[i]? = some c) (hp : (cs.take i).find? (isK n) = none) : (cs.take (i + 1)).find? (isK n) = if isK n c = true then some c else none := by
  rw [List.take_add_one, h, List.find?_append, hp]
  show (Option.none).or _ = _
  rw [Option.none_or]
  show (match isK n c with | true => some c | false => none) = _
  cases isK n c <;> rfl
theorem findk_take {cs : List Col} {i : Nat} {c : Col} {n : Int} (h : cs[i]? = some c) (hp : (cs.take i).find? (isK n) = none) (hc : isK n c = true) : cs.find? (isK n) = some c := by
  have e : cs = cs.take (i + 1) ++ cs.drop (i + 1) := (List.take_append_drop _ _).symm
  rw [e, List.find?_append, findk_pre h hp, if_pos hc]
  rfl
theorem ok_column_numbered (T : Tx K mg) : Callee P w K mg base CX0 2 "column_numbered" ["columns", "number"] [] (sp_column_numbered K) := by
  have C1 := ok_is_whole (P := P) (w := w) (base := base) T
  refine mkCallee (fd_column_numbered T) (mg_column_numbered T) sc_column_numbered (fun _ _ _ _ _ _ us hl => match us, hl with | [_, _], _ => rfl) (fun vs H Q E h => ?_) (fun cdv A outer s H vs Q E hr h => ?_)
  · obtain ⟨l, as, cs, n, rfl, _⟩ := h
    rfl
  · obtain ⟨l, as, cs, n, rfl, hl, hc, k⟩ := h
    have nd := sc_column_numbered.nd
    refine ⟨_, pss_cons (ps_if (pt_not (pt_val (pcall C1 hr (pa_cons (pv 1) pa_nil)))) (pss_one (ps_ret pe_non)) pss_nil)
        (pss_cons (ps_for PassesOwn.never rfl (pi_list (pv 0)) (pg_name (i := 2) nd rfl (Or.inl rfl)) (pss_one (ps_if (pt_cmpR op_eq (pe_fld (pv 2) rfl) (pv 1) (nomark _)) (pss_one (ps_ret (pv 2))) pss_nil))) (pss_one (ps_ret pe_non))), ?_⟩
    refine ⟨_, rfl, .int n, _, rfl, .base (.int n), _, rfl, iteF ⟨_, rfl, l, rfl, ⟨_, hl⟩, ?_⟩⟩
    refine for_list (xs := as.map V.ref) (fun i σ H' => H' = H ∧ (cs.take i).find? (isK n) = none ∧ ∃ y, σ = [some (.ref l), some (.int n), y]) ⟨rfl, rfl, _, rfl⟩ (fun i σ H' _ h => by rw [h.1]; exact hl) ?_ ?_
    · rintro i x σ H' hx ⟨rfl, hp, y, rfl⟩
      rw [List.getElem?_map] at hx
      cases ha : as[i]? with
      | none =>
        rw [ha] at hx
        cases hx
      | some a =>
        rw [ha] at hx
        obtain rfl := Option.some.inj hx
        obtain ⟨c, hci, dx, hat⟩ := hc.at_ ha
        refine ⟨_, rfl, a, _, dx, _, _, rfl, hat, cl_Column T, na_Column_number T, colFs_number, _, rfl, rfl, _, rfl, ?_⟩
        by_cases e : c.num = n
        · rw [decide_eq_true (show V.int c.num = V.int n by rw [e])]
          exact iteT ⟨_, rfl, k _ (.inr ⟨i, a, c, rfl, ha, hci, findk_take hci hp (decide_eq_true e)⟩)⟩
        · rw [decide_eq_false (fun z => e (V.int.inj z))]
          exact iteF ⟨rfl, by rw [findk_pre hci hp, if_neg (by rw [show isK n c = false from decide_eq_false e]; decide)], _, rfl⟩
    · rintro σ H' ⟨rfl, hp, y, rfl⟩
      rw [List.length_map, hc.len, List.take_length] at hp
      exact k _ (.inl ⟨rfl, hp⟩)
/-! kind_of -/
def sp_kind_of (K : PySem.W.Frag) : Sp := fun vs H Q _ => ∃ (t : Addr) (c : Ch), vs = [.ref t] ∧ ChAt K H t c ∧ Q (.str c.kind) H
theorem ok_kind_of (T : Tx K mg) : Callee P w K mg base CX0 1 "kind_of" ["change"] [] (sp_kind_of K) := by
  refine mkCallee (fd_kind_of T) (mg_kind_of T) sc_kind_of (fun _ _ _ _ _ _ us hl => match us, hl with | [_], _ => rfl) (fun vs H Q E h => ?_) (fun cdv A outer s H vs Q E hr h => ?_)
  · obtain ⟨t, c, rfl, _⟩ := h
    rfl
  · obtain ⟨t, c, rfl, ht, k⟩ := h
    exact ⟨_, pss_one (ps_ret (pe_ix ix_tup (pv 0) pe_int (fun _ _ => rfl))), _, rfl, t, _, 0, _, rfl, rfl, ht, c.at0, k⟩
/-! add_hindrance -/
def addHind (cs : List Col) (n : Str) (g : Int) (d : V) : V := if (cs.find? (isN n)).isSome = true then .str "alive" else if 6 ≤ cs.length then .str "many" else if isIn g d = true then .non else .str "above"
def sp_add_hindrance (K : PySem.W.Frag) : Sp := fun vs H Q _ => ∃ (l t : Addr) (as : List Addr) (cs : List Col) (x : V) (n : Str) (g : Int) (d : V), vs = [.ref l, x, .ref t] ∧ (SqL K H l (as.map V.ref) ∨ SqT K H l (as.map V.ref)) ∧ Cols K H as cs ∧ Named as cs n x ∧ ChAt K H t (.add n g d) ∧ isVal d = true ∧ Q (addHind cs n g d) H
theorem ok_add_hindrance (T : Tx K mg) : Callee P w K mg base CX0 4 "add_hindrance" ["columns", "namesake", "change"] [] (sp_add_hindrance K) := by
  have C1 := ok_is_within (P := P) (w := w) (base := base) T
  refine mkCallee (fd_add_hindrance T) (mg_add_hindrance T) sc_add_hindrance (fun _ _ _ _ _ _ us hl => match us, hl with | [_, _, _], _ => rfl) (fun vs H Q E h => ?_) (fun cdv A outer s H vs Q E hr h => ?_)
  · obtain ⟨l, t, as, cs, x, n, g, d, rfl, _⟩ := h
    rfl
  · obtain ⟨l, t, as, cs, x, n, g, d, rfl, hl, hc, hx, ht, hd, k⟩ := h
    obtain ⟨tk, gM⟩ := mi_MOST_COLUMNS T
    refine ⟨_, pss_cons (ps_if (pt_cmpR op_notN (pv 1) pe_non (nomark _)) (pss_one (ps_ret pe_str)) pss_nil)
      (pss_cons (ps_if (pt_cmpR op_ge (pe_callB call_len (by rfl) (fr_len T) PySem.boot_len (pa_cons (pv 0) pa_nil)) (pe_glob (v := .int 6) (by rfl) gM ⟨_, rfl⟩) (nomark _)) (pss_one (ps_ret pe_str)) pss_nil)
      (pss_cons (ps_if (pt_not (pt_val (pcall C1 hr (pa_cons (pe_ix ix_tup (pv 2) pe_int (fun _ _ => rfl)) (pa_cons (pe_ix ix_tup (pv 2) pe_int (fun _ _ => rfl)) pa_nil))))) (pss_one (ps_ret pe_str)) pss_nil)
      (pss_one (ps_ret pe_non)))), ?_⟩
    unfold addHind at k
    refine ⟨_, rfl, rfl, _, rfl, ?_⟩
    rcases hx with ⟨rfl, hf⟩ | ⟨i, a, c, rfl, _, _, hf⟩
    · rw [hf] at k
      rw [if_neg (show ¬ (Option.isSome (none : Option Col)) = true by decide)] at k
      refine iteNS rfl ?_
      have hlen : LenV K (.ref l) H cs.length := by
        rcases hl with hl | hl
        · exact .inl ⟨_, hl, by rw [List.length_map]; exact hc.len.symm⟩
        · exact .inr ⟨_, hl, by rw [List.length_map]; exact hc.len.symm⟩
      refine ⟨_, rfl, _, cs.length, rfl, hlen, _, _, rfl, rfl, _, rfl, ?_⟩
      by_cases h6 : 6 ≤ cs.length
      · rw [if_pos h6] at k
        exact iteDT (by omega) k
      · rw [if_neg h6] at k
        have td : ∃ ty, TyX K H d (.type ty) := by
          cases d with
          | non => exact ⟨_, .base .non⟩
          | int i => exact ⟨_, .base (.int i)⟩
          | _ => cases hd
        obtain ⟨ty, td⟩ := td
        refine iteD (by omega) ⟨_, rfl, t, _, 3, _, rfl, rfl, ht, rfl, _, rfl, t, _, 2, _, rfl, rfl, ht, rfl, d, g, ty, rfl, td, _, rfl, ?_⟩
        cases hi : isIn g d with
        | true =>
          rw [hi, if_pos rfl] at k
          exact iteF k
        | false =>
          rw [hi, if_neg (by decide)] at k
          exact iteT k
    · rw [hf] at k
      rw [if_pos (show (Option.isSome (some c)) = true from rfl)] at k
      exact iteNF (by intro z; cases z) k
/-! hindrance -/
/-- the word by which a change cannot be done, or None -/
def hindV (cs : List Col) (c : Ch) : V := match c with
  | .add n g d => addHind cs n g d
  | .drop n => match cs.find? (isN n) with
    | none => .str "unknown"
    | some _ => if cs.length = 1 then .str "only" else .non
  | .rename n m => match cs.find? (isN n) with
    | none => .str "unknown"
    | some _ => if (cs.find? (isN m)).isSome = true then .str "alive" else .non
  | .dflt n v => match cs.find? (isN n) with
    | none => .str "unknown"
    | some e => if isIn e.top v = true then .non else .str "above"
  | .great n g way => match cs.find? (isN n) with
    | none => .str "unknown"
    | some e => if chgV e.name (.great n g way) e.dflt = .str "missing" then .str "default" else .non
  | .fill n i => match cs.find? (isN n) with
    | none => .str "unknown"
    | some e => if isIn e.top (.int i) = true then .non else .str "above"
def sp_hindrance (K : PySem.W.Frag) : Sp := fun vs H Q _ => ∃ (l t : Addr) (as : List Addr) (cs : List Col) (c : Ch), vs = [.ref l, .ref t] ∧ (SqL K H l (as.map V.ref) ∨ SqT K H l (as.map V.ref)) ∧ Cols K H as cs ∧ (∀ e ∈ cs, valOk e.dflt = true) ∧ ChAt K H t c ∧ c.fits = true ∧ ∀ H', Same H H' → Q (hindV cs c) H'
theorem chg_scal {n : Str} {c : Ch} {v : V} (h : valOk v = true) : scal (chgV n c v) (.str "missing") = true := by
  unfold chgV
  split
  · cases c <;> cases v <;> first | cases h | rfl | skip
    all_goals (simp only [abv]; repeat (first | rfl | split))
  · cases v <;> first | rfl | cases h
theorem ok_hindrance (T : Tx K mg) : Callee P w K mg base CX0 5 "hindrance" ["columns", "change"] [] (sp_hindrance K) := by
  have C1 := (ok_column_named (P := P) (w := w) (base := base) T).up (show 1 ≤ 4 by decide)
  have C2 := ok_add_hindrance (P := P) (w := w) (base := base) T
  have C3 := (ok_is_within (P := P) (w := w) (base := base) T).up (show 3 ≤ 4 by decide)
  have C4 := (ok_changed_value (P := P) (w := w) (base := base) T).up (show 2 ≤ 4 by decide)
  refine mkCallee (fd_hindrance T) (mg_hindrance T) sc_hindrance (fun _ _ _ _ _ _ us hl => match us, hl with | [_, _], _ => rfl) (fun vs H Q E h => ?_) (fun cdv A outer s H vs Q E hr h => ?_)
  · obtain ⟨l, t, as, cs, c, rfl, _⟩ := h
    rfl
  · obtain ⟨l, t, as, cs, c, rfl, hl, hc, hd, ht, hf, k⟩ := h
    obtain ⟨tk, gM⟩ := ms_MISSING T
    have nd := sc_hindrance.nd
    refine ⟨_, pss_cons (ps_set (i := 2) nd rfl (Or.inl rfl) (pe_ix ix_tup (pv 1) pe_int (fun _ _ => rfl)))
      (pss_cons (ps_set (i := 3) nd rfl (Or.inl rfl) (pcall C1 hr (pa_cons (pv 0) (pa_cons (pe_ix ix_tup (pv 1) pe_int (fun _ _ => rfl)) pa_nil))))
      (pss_cons (ps_if (pt_cmpR op_eq (pv 2) pe_str (nomark _)) (pss_one (ps_ret (pcall C2 hr (pa_cons (pv 0) (pa_cons (pv 3) (pa_cons (pv 1) pa_nil)))))) pss_nil)
      (pss_cons (ps_if (pt_cmpR op_isN (pv 3) pe_non (nomark _)) (pss_one (ps_ret pe_str)) pss_nil)
      (pss_cons (ps_if (PW.pt (pw_and (pt_cmpR op_eq (pv 2) pe_str (nomark _)) (pw_and1 (pt_cmpR op_notN (pcall C1 hr (pa_cons (pv 0) (pa_cons (pe_ix ix_tup (pv 1) pe_int (fun _ _ => rfl)) pa_nil))) pe_non (nomark _))))) (pss_one (ps_ret pe_str)) pss_nil)
      (pss_cons (ps_if (PW.pt (pw_and (pt_cmpR op_eq (pv 2) pe_str (nomark _)) (pw_and1 (pt_cmpR op_eq (pe_callB call_len (by rfl) (fr_len T) PySem.boot_len (pa_cons (pv 0) pa_nil)) pe_int (nomark _))))) (pss_one (ps_ret pe_str)) pss_nil)
      (pss_cons (ps_if (PW.pt (pw_and (pt_cmpR op_in_seq (pv 2) (pe_tup (pa_cons pe_str (pa_cons pe_str pa_nil))) (by rfl)) (pw_and1 (pt_not (pt_val (pcall C3 hr (pa_cons (pe_ix ix_tup (pv 1) pe_int (fun _ _ => rfl)) (pa_cons (pe_fld (pv 3) rfl) pa_nil))))))))
        (pss_one (ps_ret pe_str)) pss_nil)
      (pss_cons (ps_if (PW.pt (pw_and (pt_cmpR op_eq (pv 2) pe_str (nomark _)) (pw_and1 (pt_cmpR op_eq (pcall C4 hr (pa_cons (pv 3) (pa_cons (pv 1) (pa_cons (pe_fld (pv 3) rfl) pa_nil)))) (pe_glob (v := .str "missing") (by rfl) gM ⟨_, rfl⟩) (nomark _))))) (pss_one (ps_ret pe_str)) pss_nil)
      (pss_one (ps_ret pe_non))))))))), ?_⟩
    have hlen : ∀ H', Same H H' → LenV K (.ref l) H' cs.length := fun H' s' => by
      rcases hl with hl | hl
      · exact .inl ⟨_, s'.seq hl, by rw [List.length_map]; exact hc.len.symm⟩
      · exact .inr ⟨_, same_tup s' hl, by rw [List.length_map]; exact hc.len.symm⟩
    refine ⟨_, rfl, t, _, 0, _, rfl, rfl, ht, c.at0, ?_⟩
    refine ⟨_, rfl, _, rfl, t, _, 1, _, rfl, rfl, ht, c.at1, l, as, cs, c.name, rfl, hl, hc, fun x hx => ?_⟩
    have kn : ∀ v, hindV cs c = v → ∀ H', Same H H' → Q v H' := fun v e H' s' => by
      rw [← e]
      exact k H' s'
    have nn : ∀ a, ¬ V.ref a = V.non := fun a z => by cases z
    cases c with
    | add n g d =>
      have hf' : (isNm (.str n) && (isGr (.int g) && isVal d)) = true := hf
      rw [Bool.and_eq_true, Bool.and_eq_true] at hf'
      exact ⟨_, rfl, rfl, _, rfl, iteDT rfl ⟨_, rfl, _, rfl, _, rfl, l, t, as, cs, x, n, g, d, rfl, hl, hc, hx, ht, hf'.2.2, kn _ rfl H (Same.refl _)⟩⟩
    | drop n =>
      refine ⟨_, rfl, rfl, _, rfl, iteD (nes (show ("drop" : Str) ≠ "add" by decide +kernel)) ⟨_, rfl, rfl, _, rfl, ?_⟩⟩
      rcases hx with ⟨rfl, hx⟩ | ⟨i, a, e, rfl, hia, hie, hx⟩
      · have hx' : cs.find? (isN n) = none := hx
        exact iteDT rfl (kn _ (by simp only [hindV, hx']) H (Same.refl _))
      have hx' : cs.find? (isN n) = some e := hx
      refine iteD (nn a) ⟨_, rfl, rfl, _, rfl, iteD (nes (show ("drop" : Str) ≠ "rename" by decide +kernel)) (iteF ⟨_, rfl, rfl, _, rfl, iteDT rfl ⟨_, rfl, _, cs.length, rfl, hlen _ (Same.refl _), rfl, _, rfl, ?_⟩⟩)⟩
      by_cases h1 : cs.length = 1
      · exact iteDT (by rw [h1]; rfl) (kn _ (by simp only [hindV, hx']; rw [if_pos h1]) H (Same.refl _))
      · refine iteD (nei (by omega)) ?_
        exact ⟨_, rfl, (by show 2 ≤ sizeLine; decide), fun t2 nt2 => ⟨t2, _, rfl, .inr (sqT_of upd_same), rfl, rfl, _, rfl, iteF (iteF ⟨_, rfl, rfl, _, rfl, iteD (nes (show ("drop" : Str) ≠ "greatest" by decide +kernel)) (iteF (kn _ (by simp only [hindV, hx']; rw [if_neg h1]) _ (same_new nt2)))⟩)⟩⟩
    | rename n m =>
      refine ⟨_, rfl, rfl, _, rfl, iteD (nes (show ("rename" : Str) ≠ "add" by decide +kernel)) ⟨_, rfl, rfl, _, rfl, ?_⟩⟩
      rcases hx with ⟨rfl, hx⟩ | ⟨i, a, e, rfl, hia, hie, hx⟩
      · have hx' : cs.find? (isN n) = none := hx
        exact iteDT rfl (kn _ (by simp only [hindV, hx']) H (Same.refl _))
      have hx' : cs.find? (isN n) = some e := hx
      have i2 : atI (Ch.rename n m).toV 2 = some (.str m) := rfl
      refine iteD (nn a) ⟨_, rfl, rfl, _, rfl, iteDT rfl ⟨_, rfl, _, rfl, t, _, 2, _, rfl, rfl, ht, i2, l, as, cs, m, rfl, hl, hc, fun y hy => ⟨rfl, _, rfl, ?_⟩⟩⟩
      rcases hy with ⟨rfl, hy⟩ | ⟨i', a', e', rfl, _, _, hy⟩
      · refine iteNS rfl ⟨_, rfl, rfl, _, rfl, iteD (nes (show ("rename" : Str) ≠ "drop" by decide +kernel)) (iteF ?_)⟩
        exact ⟨_, rfl, (by show 2 ≤ sizeLine; decide), fun t2 nt2 => ⟨t2, _, rfl, .inr (sqT_of upd_same), rfl, rfl, _, rfl, iteF (iteF ⟨_, rfl, rfl, _, rfl, iteD (nes (show ("rename" : Str) ≠ "greatest" by decide +kernel)) (iteF (kn _ (by simp only [hindV, hx', hy]; rfl) _ (same_new nt2)))⟩)⟩⟩
      · exact iteNF (nn _) (kn _ (by simp only [hindV, hx', hy]; rfl) H (Same.refl _))
    | dflt n v =>
      refine ⟨_, rfl, rfl, _, rfl, iteD (nes (show ("default" : Str) ≠ "add" by decide +kernel)) ⟨_, rfl, rfl, _, rfl, ?_⟩⟩
      rcases hx with ⟨rfl, hx⟩ | ⟨i, a, e, rfl, hia, hie, hx⟩
      · have hx' : cs.find? (isN n) = none := hx
        exact iteDT rfl (kn _ (by simp only [hindV, hx']) H (Same.refl _))
      have hx' : cs.find? (isN n) = some e := hx
      obtain ⟨e2, he2, dx, hat⟩ := hc.at_ hia
      obtain rfl : e = e2 := Option.some.inj (hie.symm.trans he2)
      have i2 : atI (Ch.dflt n v).toV 2 = some v := rfl
      refine iteD (nn a) ⟨_, rfl, rfl, _, rfl, iteD (nes (show ("default" : Str) ≠ "rename" by decide +kernel)) (iteF ⟨_, rfl, rfl, _, rfl, iteD (nes (show ("default" : Str) ≠ "drop" by decide +kernel)) (iteF ⟨_, rfl, (by show 2 ≤ sizeLine; decide), fun t2 nt2 => ⟨t2, _, rfl, .inr (sqT_of upd_same), rfl, rfl, _, rfl, iteT ?_⟩⟩)⟩)⟩
      have s2 := same_new (o := .tup [V.str "default", .str "fill"]) nt2
      have tv : ∃ ty, ∀ H : Hp, TyX K H v (.type ty) := by
        have hv : (isNm (.str n) && isVal v) = true := hf
        rw [Bool.and_eq_true] at hv
        cases v with
        | non => exact ⟨_, fun _ => .base .non⟩
        | int i => exact ⟨_, fun _ => .base (.int i)⟩
        | _ => cases hv.2
      obtain ⟨ty, tv⟩ := tv
      refine ⟨_, rfl, t, _, 2, _, rfl, rfl, same_tup s2 ht, i2, _, rfl, a, _, dx, _, _, rfl, s2 _ _ hat, cl_Column T, na_Column_greatest T, colFs_greatest, v, e.top, ty, rfl, tv _, _, rfl, ?_⟩
      cases hi : isIn e.top v with
      | true => exact iteF (nxt ⟨_, rfl, rfl, _, rfl, iteD (nes (show ("default" : Str) ≠ "greatest" by decide +kernel)) (iteF (nxt (kn _ (by simp only [hindV, hx']; rw [if_pos hi]) _ s2)))⟩)
      | false => exact iteT (kn _ (by simp only [hindV, hx']; rw [if_neg (by rw [hi]; decide)]) _ s2)
    | fill n v =>
      refine ⟨_, rfl, rfl, _, rfl, iteD (nes (show ("fill" : Str) ≠ "add" by decide +kernel)) ⟨_, rfl, rfl, _, rfl, ?_⟩⟩
      rcases hx with ⟨rfl, hx⟩ | ⟨i, a, e, rfl, hia, hie, hx⟩
      · have hx' : cs.find? (isN n) = none := hx
        exact iteDT rfl (kn _ (by simp only [hindV, hx']) H (Same.refl _))
      have hx' : cs.find? (isN n) = some e := hx
      obtain ⟨e2, he2, dx, hat⟩ := hc.at_ hia
      obtain rfl : e = e2 := Option.some.inj (hie.symm.trans he2)
      have i2 : atI (Ch.fill n v).toV 2 = some (.int v) := rfl
      refine iteD (nn a) ⟨_, rfl, rfl, _, rfl, iteD (nes (show ("fill" : Str) ≠ "rename" by decide +kernel)) (iteF ⟨_, rfl, rfl, _, rfl, iteD (nes (show ("fill" : Str) ≠ "drop" by decide +kernel)) (iteF ⟨_, rfl, (by show 2 ≤ sizeLine; decide), fun t2 nt2 => ⟨t2, _, rfl, .inr (sqT_of upd_same), rfl, rfl, _, rfl, iteT ?_⟩⟩)⟩)⟩
      have s2 := same_new (o := .tup [V.str "default", .str "fill"]) nt2
      have tv : ∃ ty, ∀ H : Hp, TyX K H (.int v) (.type ty) := ⟨_, fun _ => .base (.int v)⟩
      obtain ⟨ty, tv⟩ := tv
      refine ⟨_, rfl, t, _, 2, _, rfl, rfl, same_tup s2 ht, i2, _, rfl, a, _, dx, _, _, rfl, s2 _ _ hat, cl_Column T, na_Column_greatest T, colFs_greatest, (.int v), e.top, ty, rfl, tv _, _, rfl, ?_⟩
      cases hi : isIn e.top (.int v) with
      | true => exact iteF (nxt ⟨_, rfl, rfl, _, rfl, iteD (nes (show ("fill" : Str) ≠ "greatest" by decide +kernel)) (iteF (nxt (kn _ (by simp only [hindV, hx']; rw [if_pos hi]) _ s2)))⟩)
      | false => exact iteT (kn _ (by simp only [hindV, hx']; rw [if_neg (by rw [hi]; decide)]) _ s2)
    | great n g way =>
      refine ⟨_, rfl, rfl, _, rfl, iteD (nes (show ("greatest" : Str) ≠ "add" by decide +kernel)) ⟨_, rfl, rfl, _, rfl, ?_⟩⟩
      rcases hx with ⟨rfl, hx⟩ | ⟨i, a, e, rfl, hia, hie, hx⟩
      · have hx' : cs.find? (isN n) = none := hx
        exact iteDT rfl (kn _ (by simp only [hindV, hx']) H (Same.refl _))
      have hx' : cs.find? (isN n) = some e := hx
      obtain ⟨e2, he2, dx, hat⟩ := hc.at_ hia
      obtain rfl : e = e2 := Option.some.inj (hie.symm.trans he2)
      have hde := hd e (List.mem_of_getElem? hie)
      refine iteD (nn a) ⟨_, rfl, rfl, _, rfl, iteD (nes (show ("greatest" : Str) ≠ "rename" by decide +kernel)) (iteF ⟨_, rfl, rfl, _, rfl, iteD (nes (show ("greatest" : Str) ≠ "drop" by decide +kernel)) (iteF ⟨_, rfl, (by show 2 ≤ sizeLine; decide), fun t2 nt2 => ⟨t2, _, rfl, .inr (sqT_of upd_same), rfl, rfl, _, rfl, iteF (iteF ?_)⟩⟩)⟩)⟩
      have s2 := same_new (o := .tup [V.str "default", .str "fill"]) nt2
      refine ⟨_, rfl, rfl, _, rfl, iteDT rfl ⟨_, rfl, _, rfl, _, rfl, a, _, dx, _, _, rfl, s2 _ _ hat, cl_Column T, na_Column_default T, colFs_default, a, t, e.name, e.top, e.num, e.dflt, e.dflt, .great n g way, rfl, ⟨dx, s2 _ _ hat⟩, same_tup s2 ht, hde, chg_scal hde, _, rfl, ?_⟩⟩
      by_cases hm : chgV e.name (.great n g way) e.dflt = .str "missing"
      · exact iteDT hm (kn _ (by simp only [hindV, hx']; rw [if_pos hm]) _ s2)
      · exact iteD hm (nxt (kn _ (by simp only [hindV, hx']; rw [if_neg hm]) _ s2))
/-! columns_behind -/
/-- the columns behind a change -/
def behind (cs : List Col) (ch : Ch) (num : Int) : List Col := match ch with
  | .add n g d => cs ++ [⟨n, g, d, num⟩]
  | .drop n => cs.filter fun c => !decide (c.name = n)
  | ch => cs.map fun c => if c.name = ch.name then chgC c ch else c
theorem Cols.all {K : PySem.W.Frag} {H : Hp} : ∀ {as : List Addr} {cs : List Col}, as.length = cs.length → (∀ (i : Nat) (a : Addr) (c : Col), as[i]? = some a → cs[i]? = some c → ColA K H a c) → Cols K H as cs
  | [], [], _, _ => .nil
  | [], _ :: _, h, _ => by cases h
  | _ :: _, [], h, _ => by cases h
  | a :: as, c :: cs, h, f => .cons (f 0 a c rfl rfl) (Cols.all (Nat.succ.inj h) fun i a' c' h1 h2 => f (i + 1) a' c' (by simpa using h1) (by simpa using h2))
theorem Cols.two {K : PySem.W.Frag} {H : Hp} {as : List Addr} {cs : List Col} {i : Nat} {a : Addr} {c : Col} (h : Cols K H as cs) (h1 : as[i]? = some a) (h2 : cs[i]? = some c) : ColA K H a c := by
  obtain ⟨c', e, q⟩ := h.at_ h1
  obtain rfl : c = c' := Option.some.inj (h2.symm.trans e)
  exact q
theorem Cols.app {K : PySem.W.Frag} {H : Hp} : ∀ {as bs : List Addr} {cs ds : List Col}, Cols K H as cs → Cols K H bs ds → Cols K H (as ++ bs) (cs ++ ds)
  | _, _, _, _, .nil, h => h
  | _, _, _, _, .cons h t, q => .cons h (t.app q)
/-- the addresses whose columns pass -/
def keepA (f : Col → Bool) : List Addr → List Col → List Addr
  | a :: as, c :: cs => if f c = true then a :: keepA f as cs else keepA f as cs
  | _, _ => []
theorem Cols.filter {K : PySem.W.Frag} {H : Hp} (f : Col → Bool) : ∀ {as : List Addr} {cs : List Col}, Cols K H as cs → Cols K H (keepA f as cs) (cs.filter f)
  | _, _, .nil => .nil
  | _, _, .cons (c := c) h t => by
    have ih := t.filter f
    unfold keepA
    rw [List.filter_cons]
    split
    · exact .cons h ih
    · exact ih
def sp_columns_behind (K : PySem.W.Frag) : Sp := fun vs H Q _ => ∃ (l t : Addr) (as : List Addr) (cs : List Col) (ch : Ch) (num : Int), vs = [.ref l, .ref t, .int num] ∧ SqL K H l (as.map V.ref) ∧ Cols K H as cs ∧ ChAt K H t ch ∧ as.length ≤ 1000 ∧ 0 ≤ num ∧
  (∀ c ∈ cs, ColOk c) ∧ (∀ c ∈ behind cs ch num, ColOk c) ∧ ∀ (l' : Addr) (as' : List Addr) (H' : Hp), H l' = none → Same H H' → H' l' = some (.lst (as'.map V.ref)) → Cols K H' as' (behind cs ch num) → Q (.ref l') H'
/-- the addresses among what a comprehension over the columns keeps -/
theorem keep_map {K : PySem.W.Frag} {H : Hp} (f : Col → Bool) (g : V → Bool) : ∀ {as : List Addr} {cs : List Col}, Cols K H as cs → (∀ a c, ColA K H a c → a ∈ as → g (.ref a) = f c) → ((as.map V.ref).filter g).map (fun x => x) = (keepA f as cs).map V.ref
  | _, _, .nil, _ => rfl
  | _, _, .cons (a := a) (c := c) h t, q => by
    have ih := keep_map f g t fun a' c' h' hm => q a' c' h' (List.mem_cons_of_mem _ hm)
    have e := q a c h List.mem_cons_self
    rw [List.map_id'] at ih ⊢
    unfold keepA
    rw [List.map_cons, List.filter_cons, e]
    split
    · rw [List.map_cons, ih]
    · exact ih
open Classical in
noncomputable def drF (K : PySem.W.Frag) (H : Hp) (n : Str) (x : V) : Bool := decide (∃ a c, x = .ref a ∧ ColA K H a c ∧ ¬ c.name = n)
theorem ColA.name_ {K : PySem.W.Frag} {H : Hp} {a : Addr} {c c' : Col} (h : ColA K H a c) (h' : ColA K H a c') : c.name = c'.name := by
  obtain ⟨dx, h⟩ := h
  obtain ⟨dx', h'⟩ := h'
  rw [h] at h'
  have e := (HO.ins.inj (Option.some.inj h')).2.2
  unfold colFs at e
  exact V.str.inj (congrArg Prod.snd (List.cons.inj e).1)
open Classical in
theorem drF_eq {K : PySem.W.Frag} {H : Hp} {n : Str} {a : Addr} {c : Col} (h : ColA K H a c) : drF K H n (.ref a) = !decide (c.name = n) := by
  unfold drF
  by_cases e : c.name = n
  · rw [decide_eq_true e, decide_eq_false]
    · rfl
    · rintro ⟨a', c', e', h', ne⟩
      cases e'
      exact ne ((h'.name_ h).trans e)
  · rw [decide_eq_false e, decide_eq_true]
    · rfl
    · exact ⟨a, c, rfl, h, e⟩
theorem Cols.of_vs {K : PySem.W.Frag} {H : Hp} : ∀ {ys : List V} {cs : List Col}, ys.length = cs.length → (∀ (i : Nat) (y : V), ys[i]? = some y → ∃ a c, y = .ref a ∧ cs[i]? = some c ∧ ColA K H a c) → ∃ as, ys = as.map V.ref ∧ Cols K H as cs
  | [], [], _, _ => ⟨[], rfl, .nil⟩
  | [], _ :: _, h, _ => by cases h
  | _ :: _, [], h, _ => by cases h
  | y :: ys, c :: cs, h, f => by
    obtain ⟨a, c', rfl, e, hc⟩ := f 0 y rfl
    obtain rfl : c = c' := Option.some.inj e
    obtain ⟨as, rfl, ht⟩ := Cols.of_vs (ys := ys) (cs := cs) (Nat.succ.inj h) fun i y' h1 => f (i + 1) y' (by simpa using h1)
    exact ⟨a :: as, rfl, .cons hc ht⟩
theorem ok_columns_behind (T : Tx K mg) : Callee P w K mg base CX0 8 "columns_behind" ["columns", "change", "number"] [] (sp_columns_behind K) := by
  have C1 := ok_changed_column (P := P) (w := w) (base := base) T
  obtain ⟨fdI, GI, FI⟩ := ok_Col_init (P := P) (w := w) (base := base) T
  obtain ⟨_, _, kb⟩ := kbinds_Col T FI
  have cl := cl_Column T
  refine mkCallee (fd_columns_behind T) (mg_columns_behind T) sc_columns_behind (fun _ _ _ _ _ _ us hl => match us, hl with | [_, _, _], _ => rfl) (fun vs H Q E h => ?_) (fun cdv A outer s H vs Q E hr h => ?_)
  · obtain ⟨l, t, as, cs, ch, num, rfl, _⟩ := h
    rfl
  · obtain ⟨l, t, as, cs, ch, num, rfl, hl, hc, ht, hlen, hnum, okc, okb, k⟩ := h
    have nd := sc_columns_behind.nd
    refine ⟨_, pss_cons (ps_set (i := 3) nd rfl (Or.inl rfl) (pe_ix ix_tup (pv 1) pe_int (fun _ _ => rfl)))
      (pss_cons (ps_set (i := 4) nd rfl (Or.inr rfl) (pe_ix ix_tup (pv 1) pe_int (fun _ _ => rfl)))
      (pss_cons (ps_if (pt_cmpR op_eq (pv 3) pe_str (nomark _)) (pss_one (ps_ret (pe_op op_cat (pe_callTy call_list_of (by rfl) (fr_list T) (by decide +kernel) (pa_cons (pv 0) pa_nil))
          (pe_lst (pa_cons (pe_makeK (mk_Column T) GI (hr.mono (by decide)) (by rfl) (mg_Column T) kb pass0 (pa_cons (pv 4) (pa_cons (pe_ix ix_tup (pv 1) pe_int (fun _ _ => rfl)) (pa_cons (pe_ix ix_tup (pv 1) pe_int (fun _ _ => rfl)) pa_nil))) (pk_cons (pv 2) pk_nil)) pa_nil))))) pss_nil)
      (pss_cons (ps_if (pt_cmpR op_eq (pv 3) pe_str (nomark _)) (pss_one (ps_ret (pe_lc (own := [("column", 5)]) (g := gName 5) (tt := tTest (tOp rNe (tFld K (tVar 5) "name") (tVar 4))) (te := tVar 5) rfl nd (pi_list (pv 0)) (blkOk_by (N := ["columns", "change", "number", "kind", "name", "column"]) (sc := defScope s_columns_behind) (by decide +kernel))
          (fun _ _ _ _ _ => pg_name (i := 5) nd rfl (Or.inl rfl)) (fun _ _ _ _ _ => pts_one (pt_cmpR op_ne (pe_fld (pv 5) rfl) (pv 4) (nomark _))) (fun _ _ _ _ _ => pv 5)))) pss_nil)
      (pss_one (ps_ret (pe_lc (own := [("column", 5)]) (g := gName 5) (tt := tYes) (te := tIf (tTest (tOp rEq (tFld K (tVar 5) "name") (tVar 4))) (tCall (sp_changed_column K) [] E0 (tCons (tVar 5) (tCons (tVar 1) tNil))) (tVar 5)) rfl nd (pi_list (pv 0)) (blkOk_by (N := ["columns", "change", "number", "kind", "name", "column"]) (sc := defScope s_columns_behind) (by decide +kernel))
          (fun _ _ _ _ _ => pg_name (i := 5) nd rfl (Or.inl rfl)) (fun _ _ _ _ _ => pts_nil) (fun _ _ _ _ _ => pe_ifExp (pt_cmpR op_eq (pe_fld (pv 5) rfl) (pv 4) (nomark _)) (pcall C1 hr (pa_cons (pv 5) (pa_cons (pv 1) pa_nil))) (pv 5)))))))), ?_⟩
    refine ⟨_, rfl, t, _, 0, _, rfl, rfl, ht, ch.at0, ?_⟩
    refine ⟨_, rfl, t, _, 1, _, rfl, rfl, ht, ch.at1, ?_⟩
    refine ⟨_, rfl, rfl, _, rfl, ?_⟩
    have other : ∀ ch' : Ch, ch' = ch → behind cs ch' num = cs.map (fun c => if c.name = ch'.name then chgC c ch' else c) → tRet (tLc (iList K (tVar 0)) (gName 5) tYes (tIf (tTest (tOp rEq (tFld K (tVar 5) "name") (tVar 4))) (tCall (sp_changed_column K) [] E0 (tCons (tVar 5) (tCons (tVar 1) tNil))) (tVar 5)) (List.map (fun x => x.2) [(("column" : Str), 5)]))
        { nx := fun _ H' => Q V.non H', rt := Q } [some (.ref l), some (.ref t), some (.int num), some (.str ch'.kind), some (.str ch'.name), none] H := fun ch' e0 e1 => by
      subst e0
      refine tlc_G (fun i y H' => ∃ a c, y = .ref a ∧ (behind cs ch' num)[i]? = some c ∧ ColA K H' a c) (fun i y H1 H2 s2 ⟨a, c, h1, h2, h3⟩ => ⟨a, c, h1, h2, h3.keepNL s2⟩) (fun R h => ⟨_, rfl, h l H (Same.refl _) hl⟩) (by rw [List.length_map]; omega) (fun _ => rfl) ?_ ?_
      · intro i x hx H1 s1 R hR
        rw [List.getElem?_map] at hx
        cases ha : as[i]? with
        | none =>
          rw [ha] at hx
          cases hx
        | some a =>
          rw [ha] at hx
          obtain rfl := Option.some.inj hx
          obtain ⟨c, hci, dx, hat⟩ := hc.at_ ha
          have hb : (behind cs ch' num)[i]? = some (if c.name = ch'.name then chgC c ch' else c) := by rw [e1, List.getElem?_map, hci]; rfl
          refine ⟨_, rfl, a, _, dx, _, _, rfl, s1 _ _ hat, cl, na_Column_name T, colFs_name, _, rfl, rfl, _, rfl, ?_⟩
          by_cases e : c.name = ch'.name
          · rw [if_pos e] at hb
            rw [decide_eq_true (show V.str c.name = V.str ch'.name by rw [e])]
            exact iteT ⟨_, rfl, _, rfl, a, t, c, ch', rfl, ⟨dx, s1 _ _ hat⟩, ht.keep s1, okc _ (List.mem_of_getElem? hci), okb _ (List.mem_of_getElem? hb), fun a' H2 s2 h2 => hR _ _ s2 ⟨a', _, rfl, hb, h2⟩⟩
          · rw [if_neg e] at hb
            rw [decide_eq_false (fun z => e (V.str.inj z))]
            exact iteF ⟨_, rfl, hR _ _ (Same.refl _) ⟨a, _, rfl, hb, dx, s1 _ _ hat⟩⟩
      · intro D ys H' nD s' hD hlen' hy
        obtain ⟨as', rfl, hcs⟩ := Cols.of_vs (by rw [hlen', List.length_map, hc.len, e1, List.length_map]) hy
        exact k D as' H' nD s' hD hcs
    cases ch with
    | add n g d =>
      have i2 : atI (Ch.add n g d).toV 2 = some (.int g) := rfl
      have i3 : atI (Ch.add n g d).toV 3 = some d := rfl
      have okn : ColOk ⟨n, g, d, num⟩ := okb _ (List.mem_append_right _ (List.mem_singleton.mpr rfl))
      refine iteDT rfl ⟨_, rfl, l, _, rfl, .inl hl, fun p np => ?_⟩
      have s1 : Same H (upd H p (.lst (as.map V.ref))) := same_new np
      have hp : upd H p (.lst (as.map V.ref)) p = some (.lst (as.map V.ref)) := upd_same
      generalize upd H p (.lst (as.map V.ref)) = H1 at s1 hp ⊢
      refine ⟨_, rfl, _, rfl, t, _, 2, _, rfl, rfl, ht.keep s1, i2, _, rfl, t, _, 3, _, rfl, rfl, ht.keep s1, i3, _, rfl, rfl, rfl, fun x dx2 nx ndx ndc => ?_⟩
      refine ⟨x, dx2, n, g, num, d, rfl, upd_same, okn.nm, okn.gr, okn.df, okn.nu, fun H4 hc4 k4 => ⟨rfl, ?_⟩⟩
      have s4 : Same H1 H4 := fun b o e => k4 b o (ne_of_none e nx) (by rw [upd_ne (ne_of_none e nx), upd_ne (ne_of_none e ndx)]; exact e)
      refine ⟨by show 1 ≤ sizeLine; decide, fun q nq => ⟨p, q, as.map V.ref, [.ref x], rfl, rfl, ?_, upd_same, ?_, fun l' nl' => ?_⟩⟩
      · exact same_new nq _ _ (s4 _ _ hp)
      · rw [List.length_map]
        exact Nat.le_trans (Nat.add_le_add_right hlen 1) (by decide)
      · have s5 : Same H (upd (upd H4 q (.lst [.ref x])) l' (.lst (as.map V.ref ++ [.ref x]))) := s1.trans (s4.trans ((same_new nq).trans (same_new nl')))
        refine k l' (as ++ [x]) _ ?_ s5 (by rw [List.map_append]; exact upd_same) ((hc.keep s5).app (.cons (ColAt.keep ((same_new nq).trans (same_new nl')) hc4) .nil))
        cases h0 : H l' with
        | none => rfl
        | some o => exact absurd ((s1.trans (s4.trans (same_new nq))) _ _ h0) (by rw [nl']; intro z; cases z)
    | drop n =>
      refine iteD (nes (show ("drop" : Str) ≠ "add" by decide +kernel)) ⟨_, rfl, rfl, _, rfl, iteDT rfl ?_⟩
      refine tlc_L (drF K H n) (fun x => x) (fun R h => ⟨_, rfl, h l H (Same.refl _) hl⟩) (by rw [List.length_map]; omega) (fun _ => rfl) ?_ (fun x _ _ H1 _ R h => ⟨_, rfl, h H1 (Same.refl _)⟩) ?_
      · intro x hx H1 s1 R hR
        obtain ⟨a, ha, rfl⟩ := List.mem_map.mp hx
        obtain ⟨i, hi⟩ := List.mem_iff_getElem?.mp ha
        obtain ⟨c, hc1, dx, hat⟩ := hc.at_ hi
        rw [drF_eq (c := c) ⟨dx, hat⟩] at hR
        have e : decide (V.str c.name = V.str n) = decide (c.name = n) := by
          by_cases e : c.name = n
          · rw [decide_eq_true e, decide_eq_true (by rw [e])]
          · rw [decide_eq_false e, decide_eq_false (fun z => e (V.str.inj z))]
        rw [← e] at hR
        exact ⟨_, rfl, a, _, dx, _, _, rfl, s1 _ _ hat, cl, na_Column_name T, colFs_name, _, rfl, rfl, _, rfl, hR _ (Same.refl _)⟩
      · intro D H' nD s' hD
        rw [keep_map (fun c => !decide (c.name = n)) (drF K H n) hc fun a c h _ => drF_eq h] at hD
        exact k D _ H' nD s' hD ((hc.keep s').filter _)
    | rename n m =>
      exact iteD (nes (show ("rename" : Str) ≠ "add" by decide +kernel)) ⟨_, rfl, rfl, _, rfl, iteD (nes (show ("rename" : Str) ≠ "drop" by decide +kernel)) (other _ rfl rfl)⟩
    | great n g way =>
      exact iteD (nes (show ("greatest" : Str) ≠ "add" by decide +kernel)) ⟨_, rfl, rfl, _, rfl, iteD (nes (show ("greatest" : Str) ≠ "drop" by decide +kernel)) (other _ rfl rfl)⟩
    | dflt n v =>
      exact iteD (nes (show ("default" : Str) ≠ "add" by decide +kernel)) ⟨_, rfl, rfl, _, rfl, iteD (nes (show ("default" : Str) ≠ "drop" by decide +kernel)) (other _ rfl rfl)⟩
    | fill n v =>
      exact iteD (nes (show ("fill" : Str) ≠ "add" by decide +kernel)) ⟨_, rfl, rfl, _, rfl, iteD (nes (show ("fill" : Str) ≠ "drop" by decide +kernel)) (other _ rfl rfl)⟩
/-! births -/
/-- the lists at the addresses es hold the columns eds -/
inductive Eds (K : PySem.W.Frag) (H : Hp) : List Addr → List (List Col) → Prop
  | nil : Eds K H [] []
  | cons {e : Addr} {es : List Addr} {cs : List Col} {eds : List (List Col)} (as : List Addr) : H e = some (.lst (as.map V.ref)) → Cols K H as cs → Eds K H es eds → Eds K H (e :: es) (cs :: eds)
theorem Eds.keep {K : PySem.W.Frag} {H H' : Hp} (s : Same H H') : ∀ {es : List Addr} {eds : List (List Col)}, Eds K H es eds → Eds K H' es eds
  | _, _, .nil => .nil
  | _, _, .cons as h c t => .cons as (s _ _ h) (c.keep s) (t.keep s)
theorem Eds.len {K : PySem.W.Frag} {H : Hp} : ∀ {es : List Addr} {eds : List (List Col)}, Eds K H es eds → es.length = eds.length
  | _, _, .nil => rfl
  | _, _, .cons _ _ _ t => congrArg Nat.succ t.len
theorem Eds.at_ {K : PySem.W.Frag} {H : Hp} : ∀ {es : List Addr} {eds : List (List Col)} {i : Nat} {e : Addr}, Eds K H es eds → es[i]? = some e → ∃ cs as, eds[i]? = some cs ∧ H e = some (.lst (as.map V.ref)) ∧ Cols K H as cs
  | _, _, _, _, .nil, e => by simp at e
  | _, _, 0, _, .cons as h c t, e => by
    simp at e
    subst e
    exact ⟨_, as, rfl, h, c⟩
  | _, _, i + 1, a, .cons as h c t, e => by
    obtain ⟨cs, as', h1, h2⟩ := Eds.at_ (i := i) (e := a) t (by simpa using e)
    exact ⟨cs, as', by simpa using h1, h2⟩
theorem Eds.snoc {K : PySem.W.Frag} {H : Hp} {e : Addr} {as : List Addr} {cs : List Col} (h : H e = some (.lst (as.map V.ref))) (c : Cols K H as cs) : ∀ {es : List Addr} {eds : List (List Col)}, Eds K H es eds → Eds K H (es ++ [e]) (eds ++ [cs])
  | _, _, .nil => .cons as h c .nil
  | _, _, .cons as' h' c' t => .cons as' h' c' (t.snoc h c)
/-- one column more: its edition is told where its number is the next one -/
def bornStep (i : Nat) (b : List Int) (c : Col) : List Int := if c.num = b.length then b ++ [(i : Int)] else b
theorem bornStep_pos {i : Nat} {b : List Int} {c : Col} (h : c.num = b.length) : bornStep i b c = b ++ [(i : Int)] := if_pos h
theorem bornStep_neg {i : Nat} {b : List Int} {c : Col} (h : ¬ c.num = b.length) : bornStep i b c = b := if_neg h
def bornTo (eds : List (List Col)) : Nat → List Int
  | 0 => []
  | i + 1 => (eds.getD i []).foldl (bornStep i) (bornTo eds i)
def bornOf (eds : List (List Col)) : List Int := bornTo eds eds.length
theorem bornStep_len (i : Nat) : ∀ (cs : List Col) (b : List Int), (cs.foldl (bornStep i) b).length ≤ b.length + cs.length
  | [], b => Nat.le_refl _
  | c :: cs, b => by
    refine Nat.le_trans (bornStep_len i cs _) ?_
    have : (bornStep i b c).length ≤ b.length + 1 := by
      unfold bornStep
      split
      · rw [List.length_append]; exact Nat.le_refl _
      · exact Nat.le_succ _
    rw [List.length_cons]
    omega
theorem bornTo_len {eds : List (List Col)} (h : ∀ cs ∈ eds, cs.length ≤ 1000) : ∀ i, (bornTo eds i).length ≤ 1000 * i
  | 0 => Nat.le_refl _
  | i + 1 => by
    have h1 := bornTo_len h i
    have h2 := bornStep_len i (eds.getD i []) (bornTo eds i)
    have h3 : (eds.getD i []).length ≤ 1000 := by
      rw [List.getD_eq_getElem?_getD]
      cases e : eds[i]? with
      | none => exact Nat.zero_le _
      | some cs => exact h cs (List.mem_of_getElem? e)
    show ((eds.getD i []).foldl (bornStep i) (bornTo eds i)).length ≤ _
    omega
def sp_births (K : PySem.W.Frag) : Sp := fun vs H Q _ => ∃ (l : Addr) (es : List Addr) (eds : List (List Col)), vs = [.ref l] ∧ H l = some (.lst (es.map V.ref)) ∧ Eds K H es eds ∧ eds.length ≤ 50 ∧ (∀ cs ∈ eds, cs.length ≤ 1000) ∧
  ∀ (p : Addr) (H' : Hp), H p = none → Same H H' → H' p = some (.lst ((bornOf eds).map V.int)) → Q (.ref p) H'
theorem ok_births (T : Tx K mg) : Callee P w K mg base CX0 1 "births" ["editions"] [] (sp_births K) := by
  refine mkCallee (fd_births T) (mg_births T) sc_births (fun _ _ _ _ _ _ us hl => match us, hl with | [_], _ => rfl) (fun vs H Q E h => ?_) (fun cdv A outer s H vs Q E hr h => ?_)
  · obtain ⟨l, es, eds, rfl, _⟩ := h
    rfl
  · obtain ⟨l, es, eds, rfl, hl, he, h50, hw, k⟩ := h
    have nd := sc_births.nd
    refine ⟨_, pss_cons (ps_set (i := 1) nd rfl (Or.inl rfl) (pe_lst pa_nil))
      (pss_cons (ps_for PassesOwn.never rfl (pi_enum (by rfl) (fr_enumerate T) (pa_cons (pv 0) pa_nil)) (pg_tup rfl (pgs_cons (pg_name (i := 2) nd rfl (Or.inl rfl)) (pgs_cons (pg_name (i := 3) nd rfl (Or.inl rfl)) pgs_nil)))
        (pss_one (ps_for PassesOwn.never rfl (pi_list (pv 3)) (pg_name (i := 4) nd rfl (Or.inl rfl)) (pss_one (ps_if (pt_cmpR op_eq (pe_fld (pv 4) rfl) (pe_callB call_len_seq (by rfl) (fr_len T) PySem.boot_len (pa_cons (pv 1) pa_nil)) (nomark _))
          (pss_one (ps_expr (pe_bm PySem.F.plainAttrs_list PySem.F.slot_list_append PySem.F.type_list_append mt_append (pv 1) (pa_cons (pv 2) pa_nil)))) pss_nil))))) (pss_one (ps_ret (pv 1)))), ?_⟩
    refine ⟨Nat.zero_le _, fun b nb => ⟨_, rfl, l, es.map V.ref, rfl, sqL_of (same_new nb _ _ hl), ?_⟩⟩
    have s0 : Same H (upd H b (.lst [])) := same_new nb
    refine for_it walk_enum (fun i σ H' => Same H H' ∧ H' b = some (.lst ((bornTo eds i).map V.int)) ∧ ∃ x y z, σ = [some (.ref l), some (.ref b), x, y, z]) ⟨s0, upd_same, _, _, _, rfl⟩ (fun i σ H' _ h => sqL_of (h.1 _ _ hl)) ?_ ?_
    · rintro i v σ H1 H2 hi ⟨s1, hb, x, y, z, rfl⟩ ⟨T1, x', y', rfl, nT, rfl, ex, ey⟩
      obtain rfl := Option.some.inj ex
      have ey : (es.map V.ref)[i]? = some y' := ey
      rw [List.getElem?_map] at ey
      cases hes : es[i]? with
      | none =>
        rw [hes] at ey
        cases ey
      | some e =>
        rw [hes] at ey
        obtain rfl := Option.some.inj ey
        obtain ⟨cs, as, hcs, hea, hc⟩ := he.at_ hes
        have hi50 : i < eds.length := (List.getElem?_eq_some_iff.mp hcs).1
        have hgd : eds.getD i [] = cs := by rw [List.getD_eq_getElem?_getD, hcs]; rfl
        have s2 : Same H (upd H1 T1 (.tup [.int (i : Nat), .ref e])) := s1.trans (same_new nT)
        have hb2 : upd H1 T1 (.tup [.int (i : Nat), .ref e]) b = some (.lst ((bornTo eds i).map V.int)) := same_new nT _ _ hb
        refine ⟨T1, _, rfl, sqT_of upd_same, rfl, _, _, rfl, _, _, rfl, rfl, ?_⟩
        generalize upd H1 T1 (.tup [.int (i : Nat), .ref e]) = H2 at s2 hb2 ⊢
        refine ⟨_, rfl, e, rfl, ⟨_, sqL_of (s2 _ _ hea)⟩, ?_⟩
        refine for_list (xs := as.map V.ref) (fun j σ H' => Same H H' ∧ H' b = some (.lst (((cs.take j).foldl (bornStep i) (bornTo eds i)).map V.int)) ∧ ∃ z, σ = [some (.ref l), some (.ref b), some (.int (i : Nat)), some (.ref e), z]) ⟨s2, hb2, _, rfl⟩ (fun j σ H' _ h => sqL_of (h.1 _ _ hea)) ?_ ?_
        · rintro j x σ H3 hx ⟨s3, hb3, z, rfl⟩
          rw [List.getElem?_map] at hx
          cases ha : as[j]? with
          | none =>
            rw [ha] at hx
            cases hx
          | some a =>
            rw [ha] at hx
            obtain rfl := Option.some.inj hx
            obtain ⟨c, hci, dx, hat⟩ := hc.at_ ha
            have et : cs.take (j + 1) = cs.take j ++ [c] := by rw [List.take_add_one, hci]; rfl
            have bl : ((cs.take j).foldl (bornStep i) (bornTo eds i)).length ≤ 100000 := by
              have h1 := bornTo_len hw i
              have h2 := bornStep_len i (cs.take j) (bornTo eds i)
              have h3 : (cs.take j).length ≤ 1000 := Nat.le_trans (List.length_take_le' _ _) (hw cs (List.mem_of_getElem? hcs))
              omega
            refine ⟨_, rfl, a, _, dx, _, _, rfl, s3 _ _ hat, cl_Column T, na_Column_number T, colFs_number, _, rfl, b, _, rfl, .inl (sqL_of hb3), rfl, _, rfl, ?_⟩
            rw [List.length_map]
            by_cases e2 : c.num = (((cs.take j).foldl (bornStep i) (bornTo eds i)).length : Int)
            · rw [decide_eq_true (show V.int c.num = V.int _ by rw [e2])]
              refine iteT ⟨_, rfl, .inl ⟨rfl, _, sqL_of hb3⟩, _, rfl, b, _, _, rfl, rfl, hb3, ?_, same_mut s3 nb, ?_, _, rfl⟩
              · rw [List.length_map]
                exact Nat.lt_of_le_of_lt bl (by decide)
              · rw [upd_same, et, List.foldl_append, List.foldl_cons, List.foldl_nil]
                rw [bornStep_pos e2, List.map_append]
                rfl
            · rw [decide_eq_false (fun z => e2 (V.int.inj z))]
              refine iteF ⟨s3, ?_, _, rfl⟩
              rw [hb3, et, List.foldl_append, List.foldl_cons, List.foldl_nil]
              rw [bornStep_neg e2]
        · rintro σ H3 ⟨s3, hb3, z, rfl⟩
          refine ⟨s3, ?_, _, _, _, rfl⟩
          rw [List.length_map, hc.len, List.take_length] at hb3
          rw [hb3]
          show _ = some (HO.lst (((eds.getD i []).foldl (bornStep i) (bornTo eds i)).map V.int))
          rw [hgd]
    · rintro σ H1 ⟨s1, hb, x, y, z, rfl⟩
      rw [List.length_map, he.len] at hb
      exact ⟨_, rfl, k b H1 nb s1 hb⟩
theorem inV_new {ns : List Str} {n : Str} (h : n ∉ ns) : inV (.str n) (ns.map V.str) = false := by
  unfold inV
  rw [List.any_eq_false]
  intro y hy
  obtain ⟨m, hm, rfl⟩ := List.mem_map.mp hy
  intro e
  exact h ((of_decide_eq_true (show decide (m = n) = true from e)) ▸ hm)

-- needs: Column.__init__
/-! a column's fields hold no method's name -/
theorem colFs_changed {n : Str} {g : Int} {d : V} {k : Int} : (colFs n g d k).lookup ("changed" : Str) = none := by
  have g1 : (("changed" : Str) == "name") = false := by decide +kernel
  have g2 : (("changed" : Str) == "greatest") = false := by decide +kernel
  have g3 : (("changed" : Str) == "default") = false := by decide +kernel
  have g4 : (("changed" : Str) == "number") = false := by decide +kernel
  unfold colFs
  simp [List.lookup, g1, g2, g3, g4]

/-! numbered_columns, where all is well -/
def numb (cs : List Col) : List Col := cs.mapIdx fun i c => { c with num := (i : Nat) }
theorem flat_strs (ns : List Str) : (ns.map V.str).all flatV = true := by
  rw [List.all_eq_true]
  intro y hy
  obtain ⟨m, _, rfl⟩ := List.mem_map.mp hy
  rfl
def sp_numbered (K : PySem.W.Frag) : Sp := fun vs H Q _ => ∃ (l : Addr) (as : List Addr) (cs : List Col), vs = [.ref l] ∧ H l = some (.lst (as.map V.ref)) ∧ Cols K H as cs ∧ 1 ≤ cs.length ∧ cs.length ≤ 6 ∧ (cs.map (·.name)).Nodup ∧ (∀ c ∈ cs, ColOk c) ∧
  ∀ (l' : Addr) (as' : List Addr) (H' : Hp), H l' = none → Same H H' → H' l' = some (.lst (as'.map V.ref)) → Cols K H' as' (numb cs) → Q (.ref l') H'
theorem ok_numbered_columns (T : Tx K mg) : Callee P w K mg base CX0 7 "numbered_columns" ["columns"] [] (sp_numbered K) := by
  have C1 := (ok_is_list (P := P) (w := w) (base := base) T).up (show 1 ≤ 6 by decide)
  obtain ⟨fdC, GC, bC⟩ := ok_changed (P := P) (w := w) (base := base) T
  have cl := cl_Column T
  obtain ⟨tM, eM⟩ := mi_MOST_COLUMNS T
  refine mkCallee (fd_numbered_columns T) (mg_numbered_columns T) sc_numbered_columns (fun _ _ _ _ _ _ us hl => match us, hl with | [_], _ => rfl) (fun vs H Q E h => ?_) (fun cdv A outer s H vs Q E hr h => ?_)
  · obtain ⟨l, as, cs, rfl, _⟩ := h
    rfl
  · obtain ⟨l, as, cs, rfl, hl, hc, h1, h6, hnd, hok, k⟩ := h
    have nd := sc_numbered_columns.nd
    refine ⟨_, pss_cons (ps_if (PW.pt (pw_or (pt_not (pt_val (pcall C1 hr (pa_cons (pv 0) pa_nil)))) (pw_or1 (pt_cmpR op_eq (pe_callB call_len_seq (by rfl) (fr_len T) PySem.boot_len (pa_cons (pv 0) pa_nil)) pe_int (nomark _))))) (pss_one ps_never) pss_nil)
      (pss_cons (ps_set (i := 1) nd rfl (Or.inl rfl) (pe_lst pa_nil))
      (pss_cons (ps_for PassesOwn.never rfl (pi_enum (by rfl) (fr_enumerate T) (pa_cons (pv 0) pa_nil)) (pg_tup rfl (pgs_cons (pg_name (i := 2) nd rfl (Or.inl rfl)) (pgs_cons (pg_name (i := 3) nd rfl (Or.inl rfl)) pgs_nil)))
        (pss_cons (ps_if (PW.pt (pw_or (pt_not (pt_val (pe_callB (C8.call_isC (insC_of (ex_Column T) cl)) (by rfl) (fr_isinstance T) (by decide +kernel) (pa_cons (pv 3) (pa_cons (pe_glob (v := .ref (He.ga K "Column")) (by rfl) (mg_Column T) rfl) pa_nil))))) (pw_or1 (pt_cmpR op_in_seq (pe_fld (pv 3) rfl) (pv 1) (by rfl))))) (pss_one ps_never) pss_nil)
        (pss_one (ps_expr (pe_bm PySem.F.plainAttrs_list PySem.F.slot_list_append PySem.F.type_list_append mt_append (pv 1) (pa_cons (pe_fld (pv 3) rfl) pa_nil))))))
      (pss_cons (ps_if (pt_cmpR op_gt (pe_callB call_len_seq (by rfl) (fr_len T) PySem.boot_len (pa_cons (pv 0) pa_nil)) (pe_glob (v := .int 6) (by rfl) eM ⟨_, rfl⟩) (nomark _)) (pss_one ps_never) pss_nil)
      (pss_one (ps_ret (pe_lc (own := [("index", 2), ("column", 3)]) (g := gTup K 2 (gCons (gName 2) (gCons (gName 3) gNil))) (tt := tYes) (te := tMeth (He.ga K "Column") "changed" (sp_changed K) [] E0 (tVar 3) (tCons (tC (.str "number")) (tCons (tVar 2) tNil))) rfl nd (pi_enum (by rfl) (fr_enumerate T) (pa_cons (pv 0) pa_nil)) (blkOk_by (N := ["columns", "names", "index", "column"]) (sc := defScope s_numbered_columns) (by decide +kernel))
          (fun _ _ _ _ _ => pg_tup rfl (pgs_cons (pg_name (i := 2) nd rfl (Or.inl rfl)) (pgs_cons (pg_name (i := 3) nd rfl (Or.inl rfl)) pgs_nil))) (fun _ _ _ _ _ => pts_nil) (fun _ _ _ _ _ => pe_meth (pv 3) cl (me_Column_changed T) GC hr bC .nil pass0 (pa_cons pe_str (pa_cons (pv 2) pa_nil))))))))), ?_⟩
    refine ⟨_, rfl, l, _, rfl, sqL_of hl, fun H1 s1 => ⟨_, rfl, iteF ⟨_, rfl, l, _, rfl, .inl (sqL_of (s1 _ _ hl)), rfl, _, rfl, ?_⟩⟩⟩
    rw [List.length_map, hc.len, decide_eq_false (fun z => by have := V.int.inj z; omega)]
    refine iteF ⟨Nat.zero_le _, fun p np => ?_⟩
    have hp0 : H p = none := s1.free np
    have s2 : Same H (upd H1 p (.lst [])) := s1.trans (same_new np)
    have hp2 : upd H1 p (.lst []) p = some (.lst (((cs.map (·.name)).take 0).map V.str)) := upd_same
    generalize upd H1 p (.lst []) = H2 at s2 hp2 ⊢
    refine ⟨_, rfl, l, as.map V.ref, rfl, sqL_of (s2 _ _ hl), ?_⟩
    refine for_it walk_enum (fun i σ H' => Same H H' ∧ H' p = some (.lst (((cs.map (·.name)).take i).map V.str)) ∧ ∃ x y, σ = [some (.ref l), some (.ref p), x, y]) ⟨s2, hp2, _, _, rfl⟩ (fun i σ H' _ h => sqL_of (h.1 _ _ hl)) ?_ ?_
    · rintro i v σ H3 H4 hi ⟨s3, hp3, x, y, rfl⟩ ⟨T1, x', y', rfl, nT, rfl, ex, ey⟩
      obtain rfl := Option.some.inj ex
      have ey : (as.map V.ref)[i]? = some y' := ey
      rw [List.getElem?_map] at ey
      cases ha : as[i]? with
      | none =>
        rw [ha] at ey
        cases ey
      | some a =>
        rw [ha] at ey
        obtain rfl := Option.some.inj ey
        obtain ⟨c, hci, dx, hat⟩ := hc.at_ ha
        have s4 : Same H (upd H3 T1 (.tup [.int (i : Nat), .ref a])) := s3.trans (same_new nT)
        have hp4 : upd H3 T1 (.tup [.int (i : Nat), .ref a]) p = some (.lst (((cs.map (·.name)).take i).map V.str)) := same_new nT _ _ hp3
        refine ⟨T1, _, rfl, sqT_of upd_same, rfl, _, _, rfl, _, _, rfl, rfl, ?_⟩
        generalize upd H3 T1 (.tup [.int (i : Nat), .ref a]) = H4 at s4 hp4 ⊢
        have hni : (cs.map (·.name))[i]? = some c.name := by rw [List.getElem?_map, hci]; rfl
        have et : (cs.map (·.name)).take (i + 1) = (cs.map (·.name)).take i ++ [c.name] := by rw [List.take_add_one, hni]; rfl
        have hfresh : c.name ∉ (cs.map (·.name)).take i := fun hm => by
          have hnd2 : ((cs.map (·.name)).take (i + 1)).Nodup := hnd.sublist (List.take_sublist _ _)
          rw [et, List.nodup_append] at hnd2
          exact hnd2.2.2 _ hm _ (List.mem_singleton.mpr rfl) rfl
        refine ⟨_, rfl, a, dx, _, rfl, s4 _ _ hat, _, rfl, iteF ⟨_, rfl, a, _, dx, _, _, rfl, s4 _ _ hat, cl, na_Column_name T, colFs_name, _, rfl, p, _, rfl, .inl (sqL_of hp4), rfl, flat_strs _, _, rfl, ?_⟩⟩
        rw [show (if false = true then !inV (V.str c.name) (((cs.map (·.name)).take i).map V.str) else inV (V.str c.name) (((cs.map (·.name)).take i).map V.str)) = false from inV_new hfresh]
        refine iteF ⟨_, rfl, .inl ⟨rfl, _, sqL_of hp4⟩, _, rfl, a, _, dx, _, _, rfl, s4 _ _ hat, cl, na_Column_name T, colFs_name, p, _, _, rfl, rfl, hp4, ?_, same_mut s4 hp0, ?_, _, _, rfl⟩
        · rw [List.length_map]
          refine Nat.lt_of_le_of_lt (List.length_take_le' _ _) ?_
          rw [List.length_map]
          exact Nat.lt_of_le_of_lt h6 (by decide)
        · rw [upd_same, et, List.map_append]
          rfl
    · rintro σ H3 ⟨s3, hp3, x, y, rfl⟩
      refine ⟨_, rfl, l, _, rfl, .inl (sqL_of (s3 _ _ hl)), _, _, rfl, rfl, _, rfl, ?_⟩
      rw [List.length_map, hc.len, decide_eq_false (by omega)]
      refine iteF ?_
      show tLc (iEnum K (tCons (tVar 0) tNil)) (gTup K 2 (gCons (gName 2) (gCons (gName 3) gNil))) tYes (tMeth (He.ga K "Column") "changed" (sp_changed K) [] E0 (tVar 3) (tCons (tC (.str "number")) (tCons (tVar 2) tNil))) [2, 3] [some (.ref l), some (.ref p), x, y] H3 Q
      refine tlc_GE (K := K) (xs := as.map V.ref) (j1 := 2) (j2 := 3) (vs := [2, 3]) (Q := Q) (H := H3) (fun i y H' => ∃ a c, y = .ref a ∧ (numb cs)[i]? = some c ∧ ColA K H' a c) (fun i y H1 H2 s2 ⟨a, c, h1, h2, h3⟩ => ⟨a, c, h1, h2, h3.keepNL s2⟩) (fun R h => ⟨_, rfl, h l H3 (Same.refl _) (sqL_of (s3 _ _ hl))⟩) (by rw [List.length_map, hc.len]; omega) (fun _ _ => rfl) ?_ ?_
      · intro i x hx H4 s4 R hR
        rw [List.getElem?_map] at hx
        cases ha : as[i]? with
        | none =>
          rw [ha] at hx
          cases hx
        | some a =>
          rw [ha] at hx
          obtain rfl := Option.some.inj hx
          obtain ⟨c, hci, dx, hat⟩ := hc.at_ ha
          have ha4 := s4 _ _ (s3 _ _ hat)
          have ok := hok c (List.mem_of_getElem? hci)
          have hb : (numb cs)[i]? = some { c with num := (i : Nat) } := by
            unfold numb
            rw [List.getElem?_mapIdx, hci]
            rfl
          refine ⟨_, rfl, a, dx, _, rfl, ha4, colFs_changed, _, rfl, a, "number", c.name, c.name, c.top, c.num, c.top, (i : Nat), c.dflt, c.dflt, .int (i : Nat), rfl, ⟨dx, ha4⟩, ⟨.inr (.inr (.inr rfl)), ?_⟩, ok.nm, ok.gr, ok.df, by omega, fun a' H' _ s' h' => hR _ _ s' ⟨a', _, rfl, hb, h'⟩⟩
          rw [if_neg (show ¬ ("number" : Str) = "name" by decide +kernel), if_neg (show ¬ ("number" : Str) = "greatest" by decide +kernel), if_neg (show ¬ ("number" : Str) = "default" by decide +kernel)]
      · intro D ys H' nD s' hD hlen' hy
        obtain ⟨as', rfl, hcs⟩ := Cols.of_vs (by rw [hlen', List.length_map, hc.len]; unfold numb; rw [List.length_mapIdx]) hy
        exact k D as' H' (s3.free nD) (s3.trans s') hD hcs
-- needs: is_list
/-! enumerate(xs), xs a list or a tuple -/
def SqB (K : PySem.W.Frag) (b : Bool) (H : Hp) (a : Addr) (xs : List V) : Prop := match b with
  | false => SqL K H a xs
  | true => SqT K H a xs
theorem SqB.or {K : PySem.W.Frag} {b : Bool} {H : Hp} {a : Addr} {xs : List V} (h : SqB K b H a xs) : SqL K H a xs ∨ SqT K H a xs := by
  cases b with
  | false => exact .inl h
  | true => exact .inr h
theorem SqB.keep {K : PySem.W.Frag} {b : Bool} {H H' : Hp} {a : Addr} {xs : List V} (s : Same H H') (h : SqB K b H a xs) : SqB K b H' a xs := by
  cases b with
  | false => exact s.seq h
  | true => exact same_tup s h
/-- it stays while an instance is filled -/
theorem SqB.up {K : PySem.W.Frag} {b : Bool} {H H' : Hp} {p C dx a : Addr} {fs : List (Str × V)} {xs : List V} (u : ∀ b o, b ≠ p → H b = some o → H' b = some o) (hp : H p = some (.ins C dx fs)) (h : SqB K b H a xs) : SqB K b H' a xs := by
  cases b with
  | false =>
    rcases h with (h | ⟨o, h⟩) | h
    · exact .inl (.inl (u _ _ (fun z => by rw [z, hp] at h; cases h) h))
    · exact .inl (.inr ⟨o, u _ _ (fun z => by rw [z, hp] at h; cases h) h⟩)
    · exact .inr h
  | true =>
    rcases h with (h | ⟨o, h⟩) | h
    · exact .inl (.inl (u _ _ (fun z => by rw [z, hp] at h; cases h) h))
    · exact .inl (.inr ⟨o, u _ _ (fun z => by rw [z, hp] at h; cases h) h⟩)
    · exact .inr h
theorem emptyTupB_ok {K : PySem.W.Frag} {a : Addr} (h : emptyTupB K a = true) (H : Hp) : SqT K H a [] := by
  unfold emptyTupB at h
  cases q : K.lookup a with
  | none =>
    rw [q] at h
    cases h
  | some o =>
    obtain ⟨oc, od, dt, osl⟩ := o
    rw [q] at h
    cases oc with
    | type c =>
      cases dt with
      | seq its n =>
        have h : (decide (c = "tuple") && decide (its.size = 0)) = true := h
        obtain ⟨h1, h2⟩ := Bool.and_eq_true_iff.mp h
        have h1 : c = "tuple" := of_decide_eq_true h1
        have h2 : its.size = 0 := of_decide_eq_true h2
        subst h1
        have e : its = #[] := Array.eq_empty_of_size_eq_zero h2
        subst e
        exact .inr ⟨_, #[], n, q, rfl, rfl, Nat.zero_le _, .nil⟩
      | _ => cases h
    | _ => cases h
def Iteb (K : PySem.W.Frag) (b : Bool) (a : Addr) : It :=
  ⟨fun i H => ∃ (xs : List V) (x : V), SqB K b H a xs ∧ xs[i]? = some x, fun i H v H' => ∃ T x, v = .ref T ∧ H T = none ∧ H' = upd H T (.tup [.int (i : Nat), x]) ∧ ∀ xs, SqB K b H a xs → xs[i]? = some x, fun i H => ∃ xs : List V, SqB K b H a xs ∧ xs.length = i⟩
theorem turn_enumT {P : Program} {w : World} {K : PySem.W.Frag} {elts : List Expr} {kk : Nat} {tpos : Pos} (a e it : Addr) :
    Turn P w K (.Tuple elts kk tpos) (Iteb K true a) [e, it] e (fun i h => (∃ old, IsEnum h e it ((i : Nat) : Int) old) ∧ h.IsTupleIter it a i ∧ e ≠ it) where
  mem := by simp
  obj := fun i h st b hb => by
    obtain ⟨⟨old, he⟩, ⟨o, ho, hc, hd⟩, _⟩ := st
    have e' : b = e ∨ b = it := by simpa using hb
    rcases e' with z | z
    · rw [z]; exact ⟨_, he, fun v q => nomatch q⟩
    · rw [z]; exact ⟨o, ho, fun v q => by rw [hd] at q; cases q⟩
  keep := fun i h h' st kp => let ⟨⟨old, he⟩, hi, hne⟩ := st; ⟨⟨old, kp e (by simp) _ he⟩, hi.at fun o q => kp it (by simp) o q, hne⟩
  item := by
    intro X hP hw hK hc i pins s σ H E I hf st hg
    subst hP hw hK
    obtain ⟨⟨old, he⟩, hit, hne⟩ := st
    obtain ⟨xs, x, hq, hx⟩ := hg
    have hq : SqT X.K H a xs := hq
    obtain ⟨its, rv, p, hz⟩ := I.tuple hq
    have hTup : s.heap.IsTuple a its.toArray := p
    obtain ⟨u, hu, ru⟩ := rv.get hx
    have hel : e < s.heap.objs.size := Heap.lt_size he
    have hil : it < s.heap.objs.size := by obtain ⟨_, q, _⟩ := hit; exact Heap.lt_size q
    have apart : ∀ b o, s.heap.get? b = some o → (∀ q : Value, o.cls = q → q ≠ .type "tuple") → b ≠ a := fun b o h1 h2 z => by
      obtain ⟨o1, q1, q2, _⟩ := hTup
      rw [← z, h1] at q1
      exact h2 _ rfl (by rw [Option.some.inj q1]; exact q2)
    have hea : e ≠ a := apart e _ he fun q e1 e2 => by rw [← e1] at e2; exact absurd (Value.type.inj e2) (by decide)
    have hai : it ≠ a := by
      obtain ⟨o, q1, q2, q3⟩ := hit
      exact apart it o q1 fun q e1 e2 => by rw [← e1, q2] at e2; exact absurd (Value.type.inj e2) (by decide)
    have hsz : i < its.toArray.size := (Array.getElem?_eq_some_iff.mp (show its.toArray[i]? = some u by simpa using hu)).1
    refine wpAny_pyNext_enum_itemC (c := (i : Nat)) (Draws.tuple (A := X.A.in1) (I.ok.hd hc) it a hai.symm its.toArray) he ⟨hit, hTup⟩ hsz hne (by simp [hne, hea]) fun x' h' tk hx' ho ⟨hit', _⟩ hT hsz hk => ?_
    obtain rfl : u = x' := Option.some.inj ((show its.toArray[i]? = some u by simpa using hu).symm.trans hx')
    refine ⟨_, rfl, wpAny_letOwnedTupleGo_enum (s := { s with heap := h', toks := tk + 1 }) ho fun h'' he' sb => ?_⟩
    have hT2 : h''.get? s.heap.objs.size = some { cls := .type "tuple", data := .seq #[.int ((i : Nat)) tk, u] } := (sb.2 _ (Nat.ne_of_gt hel)).trans hT
    have new : ObjOk X.prog X.w (upd H s.heap.objs.size (.tup [.int ((i : Nat)), x])) h'' s.heap.objs.size (.tup [.int ((i : Nat)), x]) :=
      ⟨by show 2 ≤ sizeLine; decide, [.int ((i : Nat)) tk, u], .cons ⟨_, rfl⟩ (.cons ru .nil), ⟨_, hT2, rfl, _, rfl⟩⟩
    have I1 : Inv X pins σ (upd H s.heap.objs.size (.tup [.int ((i : Nat)), x])) { s with heap := h'', toks := tk + 1 } :=
      I.turnedNew (ch := [e, it]) (fun b ob hb q => (sb.2 b (fun z => hb (by simp [z]))).trans (hk b ob (fun z => hb (by simp [z])) (fun z => hb (by simp [z])) q)) hf (Nat.le_refl _) new
    refine ⟨.ref s.heap.objs.size, _, I1, rfl, ⟨_, x, rfl, I.hok.fresh (Nat.le_refl _), rfl, fun ys hy => by rw [I.tuple_inj (show SqT X.K H a ys from hy) hq]; exact hx⟩, ⟨⟨u, ?_⟩, hit'.at fun o q => (sb.2 it (Ne.symm hne)).trans q, hne⟩, fun b hb => ?_⟩
    · have e1 : ((i + 1 : Nat) : Int) = (i : Int) + 1 := by omega
      rw [e1]; exact he'
    · have hb' : b < s.heap.objs.size := by
        have e' : b = e ∨ b = it := by simpa using hb
        rcases e' with z | z
        · rw [z]; exact hel
        · rw [z]; exact hil
      rw [upd_ne (Nat.ne_of_lt hb')]
      exact (hf b hb).1
  done := by
    intro X hP hw hK hc i pins s σ H E I hf st hg
    subst hP hw hK
    obtain ⟨⟨old, he⟩, hit, hne⟩ := st
    obtain ⟨xs, hq, hx⟩ := hg
    have hq : SqT X.K H a xs := hq
    obtain ⟨its, rv, p, hz⟩ := I.tuple hq
    have hTup : s.heap.IsTuple a its.toArray := p
    obtain ⟨f0, f1, f2, f3, f4, f5⟩ := hf it (by simp)
    have hl := rv.length
    have hai : it ≠ a := by
      obtain ⟨o, q1, q2, q3⟩ := hit
      obtain ⟨o1, r1, r2, _⟩ := hTup
      intro z
      rw [z, r1] at q1
      rw [← Option.some.inj q1, r2] at q2
      exact absurd (Value.type.inj q2) (by decide)
    have hn : its.toArray.size = i := by simp; omega
    exact wpAny_pyNext_enum_endD (Draws.tuple (A := X.A.in1) (I.ok.hd hc) it a hai.symm its.toArray) he ⟨by rw [hn]; exact hit, hTup⟩ fun h' eb => ⟨rfl, I.turned (t' := s.toks) (fun b o hb q => eb b o hb q) f0 f1 f3 f4 f5⟩
  self := fun A i s Q E st h => let ⟨⟨_, he⟩, _⟩ := st; wpAny_pyIter_enum he h
theorem turn_enumF {P : Program} {w : World} {K : PySem.W.Frag} {elts : List Expr} {kk : Nat} {tpos : Pos} (a e it : Addr) :
    Turn P w K (.Tuple elts kk tpos) (Iteb K false a) [e, it] e (fun i h => (∃ old, IsEnum h e it ((i : Nat) : Int) old) ∧ h.IsListIter it a i ∧ e ≠ it) :=
  have t := turn_enum (P := P) (w := w) (K := K) (elts := elts) (kk := kk) (tpos := tpos) a e it
  { mem := t.mem, obj := t.obj, keep := t.keep, item := t.item, self := t.self, done := fun X hP hw hK hc i pins s σ H E I hf st hg => t.done X hP hw hK hc i pins s σ H E I hf st (by
      obtain ⟨xs, h1, h2⟩ := hg
      exact ⟨xs, h1, Nat.le_of_eq h2⟩) }
theorem meets_enumerate_new1 {v : Value} {o : Obj} {H : Heap → Prop} (B : Begins v o H) :
    Meets (Builtin.«enumerate.__new__» ⟨[.type "enumerate", v], []⟩) (fun _ R s => H s.heap ∧
      R (.ok (.ret (.ref (s.heap.push o).objs.size))) { s with heap := (s.heap.push o).push { cls := .type "enumerate", data := .fields #[.none, .bool false, .ref s.heap.objs.size, rawInt 0, .none, .none] } }) :=
  .of_wp fun prog w A R s h => by
    obtain ⟨hp, g, d, tk, os⟩ := s; obtain ⟨h1, h⟩ := h
    have hsub := sub_enumerate
    have q1 : ∀ {A' : Around} {E : Value → Shared → Prop} {Q : Value → Shared → Prop}, Q (.ref hp.objs.size) ⟨hp.push o, g, d, tk, os⟩ → wpAny (model prog w) A' (pyIter v) Q E ⟨hp, g, d, tk, os⟩ :=
      fun q => B.iter prog w _ _ ⟨hp, g, d, tk, os⟩ _ h1 q
    wp_walk using q1
    refine wpAny_stack_any fun st => wpAny_pure ?_
    split
    · rename_i c _ _ _ _ _
      cases (c == Value.type "enumerate")
      · wp_walk using q1
        exact ⟨_, rfl, h⟩
      · wp_walk using q1
        exact ⟨_, rfl, h⟩
    · wp_walk using q1
      exact ⟨_, rfl, h⟩
theorem enum_begins1 {prog : Program} {w : World} {A : Around} {E : Value → Shared → Prop} {s : Shared} {v : Value} {o : Obj} {H : Heap → Prop} {Q : Value → Shared → Prop} (B : Begins v o H) (h1 : H s.heap)
    (h : ∀ h', IsEnum h' (s.heap.objs.size + 1) s.heap.objs.size 0 .none → h'.get? s.heap.objs.size = some o → h'.objs.size = s.heap.objs.size + 2 →
      (∀ b o, s.heap.get? b = some o → h'.get? b = some o) → Q (.ref (s.heap.objs.size + 1)) { s with heap := h' }) :
    wpAny (model prog w) A (call (.type "enumerate") [v]) Q E s := by
  refine callType_new F.called_enumerate (by decide) (F.typeCall_enumerate_1 _) (F.newCall_enumerate_1 _) (fun obj => F.args_object_init_2 obj _) F.entry_enumerate_new
    (meets_enumerate_new1 B) ⟨h1, ?_⟩
  have hz : (s.heap.push o).objs.size = s.heap.objs.size + 1 := Heap.size_push ..
  show _ ∧ _
  rw [hz]
  have he : IsEnum ((s.heap.push o).push { cls := .type "enumerate", data := .fields #[.none, .bool false, .ref s.heap.objs.size, rawInt 0, .none, .none] }) (s.heap.objs.size + 1) s.heap.objs.size 0 .none := by
    have := Heap.get?_push_size (s.heap.push o) (o := { cls := .type "enumerate", data := .fields #[.none, .bool false, .ref s.heap.objs.size, rawInt 0, .none, .none] }) rfl
    rw [hz] at this; exact this
  refine ⟨⟨_, he, rfl⟩, h _ he (Heap.get?_push_of_some _ (Heap.get?_push_size _ B.free)) (by rw [Heap.size_push, hz]) fun b o x => Heap.get?_push_of_some _ (Heap.get?_push_of_some _ x)⟩
def iEnumB (K : PySem.W.Frag) (ta : TA) : TI := fun σ H R => ta σ H fun vs H1 => ∃ a xs b, vs = [.ref a] ∧ SqB K b H1 a xs ∧ R (Iteb K b a) H1
theorem pi_enumB {X : Cx} {e : Expr} {ta : TA} {p pos tpos : Pos} {elts : List Expr} {kk : Nat} (hg : Gl X "enumerate") (hm : X.mg "enumerate" = none) (ha : PA X [e] ta) (hs : starEach [e] X.env = [(false, eval e X.env)] := by rfl) :
    PI X (.Tuple elts kk tpos) (.Call (.Name "enumerate" p) [e] [] pos) (iEnumB X.K ta) := by
  refine ⟨fun pins s σ H R I h => ?_⟩
  refine Call_ (ld_blt I hg hm boot_enumerate (PyProof.Rows.callWith_type1 (thn (ha.run pos pins s σ H _ I h) fun us s1 ⟨vs, H1, I1, r1, q1⟩ => ?_) hs rfl))
  obtain ⟨a, xs, b, ex, hq, q⟩ := q1
  subst ex
  cases r1 with
  | cons r rr =>
    cases rr
    cases r
    have fpo : ∀ b : Addr, b ∈ [s1.heap.objs.size + 1, s1.heap.objs.size] → s1.heap.objs.size ≤ b := fun b hb => by
      have e' : b = s1.heap.objs.size + 1 ∨ b = s1.heap.objs.size := by simpa using hb
      rcases e' with z | z
      · rw [z]; exact Nat.le_add_right _ _
      · rw [z]; exact Nat.le_refl _
    cases b with
    | false =>
      have hq : SqL X.K H1 a xs := hq
      obtain ⟨its, rv, p', hz⟩ := I1.list hq
      refine call_enumerate_list p'.isList fun h' he hit hsz hk => wpAny_pyIter_enum he ?_
      have I2 : Inv X pins σ H1 { s1 with heap := h' } := I1.kept (t' := s1.toks) hk
      exact ⟨s1.heap.objs.size + 1, [s1.heap.objs.size + 1, s1.heap.objs.size], _, _, H1, rfl, I2, turn_enumF a (s1.heap.objs.size + 1) s1.heap.objs.size, ⟨⟨.none, he⟩, hit, Nat.succ_ne_self _⟩, fun b hb => I1.fpOk (fpo b hb) (I1.hok.fresh (fpo b hb)), q⟩
    | true =>
      have hq : SqT X.K H1 a xs := hq
      obtain ⟨its, rv, p', hz⟩ := I1.tuple hq
      refine enum_begins1 (begins_tuple a its.toArray) p' fun h' he hit hsz hk => wpAny_pyIter_enum he ?_
      have I2 : Inv X pins σ H1 { s1 with heap := h' } := I1.kept (t' := s1.toks) hk
      exact ⟨s1.heap.objs.size + 1, [s1.heap.objs.size + 1, s1.heap.objs.size], _, _, H1, rfl, I2, turn_enumT a (s1.heap.objs.size + 1) s1.heap.objs.size, ⟨⟨.none, he⟩, ⟨_, hit, rfl, rfl⟩, Nat.succ_ne_self _⟩, fun b hb => I1.fpOk (fpo b hb) (I1.hok.fresh (fpo b hb)), q⟩
theorem walk_enumB {K : PySem.W.Frag} {b : Bool} {a : Addr} {xs : List V} : Walk (Iteb K b a) xs.length (fun H => SqB K b H a xs) (YPair (fun i => some (.int (i : Nat))) (fun i => xs[i]?)) := by
  refine ⟨fun i _ hi q => ⟨xs, xs[i], q, by simp [hi]⟩, fun _ q => ⟨xs, q, rfl⟩, fun i H v H' _ q y => ?_⟩
  obtain ⟨T, x, h1, h2, h3, h4⟩ := y
  exact ⟨T, .int (i : Nat), x, h1, h2, h3, rfl, h4 xs q⟩

-- needs: is_list is_change
/-! is_list, of a list or a tuple -/
def sp_is_listG (K : PySem.W.Frag) : Sp := fun vs H Q _ => ∃ (a : Addr) (xs : List V), vs = [.ref a] ∧ (SqL K H a xs ∨ SqT K H a xs) ∧ ∀ H', Same H H' → Q (.bl true) H'
theorem ok_is_listG (T : Tx K mg) : Callee P w K mg base CX0 1 "is_list" ["value"] [] (sp_is_listG K) := by
  refine mkCallee (fd_is_list T) (mg_is_list T) sc_is_list (fun _ _ _ _ _ _ us hl => match us, hl with | [_], _ => rfl) (fun vs H Q E h => ?_) (fun cdv A outer s H vs Q E hr h => ?_)
  · obtain ⟨a, xs, rfl, _⟩ := h
    rfl
  · obtain ⟨a, xs, rfl, hx, k⟩ := h
    refine ⟨_, pss_one (ps_ret (pe_callB call_isiT (by rfl) (fr_isinstance T) (by decide +kernel) (pa_cons (pv 0) (pa_cons (pe_tup (pa_cons (pe_bltn (v := .ty "list") (by rfl) (fr_list T) (by decide +kernel) rfl) (pa_cons (pe_bltn (v := .ty "tuple") (by rfl) (fr_tuple T) (by decide +kernel) rfl) pa_nil))) pa_nil)))), ?_⟩
    refine ⟨_, rfl, (by show 2 ≤ sizeLine; decide), fun t nt => ?_⟩
    have s := same_new (o := .tup [.ty "list", .ty "tuple"]) nt
    rcases hx with hx | hx
    · exact ⟨.ref a, t, _, _, _, true, rfl, upd_same, .cons (.ty "list") (.cons (.ty "tuple") .nil), sqL_ty (s.seq hx), kitAny_cons (b := true) (kit_ty (by decide +kernel)) (fun z => by cases z) (fun _ => rfl), k _ s⟩
    · exact ⟨.ref a, t, _, _, _, true, rfl, upd_same, .cons (.ty "list") (.cons (.ty "tuple") .nil), sqT_tup (same_tup s hx), kitAny_cons (b := false) (kit_ty (by decide +kernel)) (fun _ => kitAny_cons (b := true) (kit_ty (by decide +kernel)) (fun z => by cases z) (fun _ => rfl)) (fun z => by cases z), k _ s⟩

/-! columns of an edition; what stays right behind a change -/
structure Good (cs : List Col) (n : Int) : Prop where
  ok : ∀ c ∈ cs, ColOk c ∧ c.num < n
  one : 1 ≤ cs.length
  six : cs.length ≤ 6
  names : (cs.map (·.name)).Nodup
  nn : 0 ≤ n
def numThen (ch : Ch) (n : Int) : Int := match ch with
  | .add _ _ _ => n + 1
  | _ => n
theorem kind_add {ch : Ch} {n : Int} (h : ch.kind = "add") : numThen ch n = n + 1 := by
  cases ch with
  | add _ _ _ => rfl
  | drop _ => exact absurd (show ("drop" : Str) = "add" from h) (by decide +kernel)
  | rename _ _ => exact absurd (show ("rename" : Str) = "add" from h) (by decide +kernel)
  | dflt _ _ => exact absurd (show ("default" : Str) = "add" from h) (by decide +kernel)
  | great _ _ _ => exact absurd (show ("greatest" : Str) = "add" from h) (by decide +kernel)
  | fill _ _ => exact absurd (show ("fill" : Str) = "add" from h) (by decide +kernel)
theorem kind_noadd {ch : Ch} {n : Int} (h : ¬ ch.kind = "add") : numThen ch n = n := by
  cases ch with
  | add _ _ _ => exact absurd rfl h
  | _ => rfl
theorem find_uniq {n : Str} : ∀ {cs : List Col} {c : Col}, (cs.map (·.name)).Nodup → c ∈ cs → c.name = n → cs.find? (isN n) = some c
  | [], _, _, h, _ => by cases h
  | e :: cs, c, nd, h, hn => by
    rw [List.map_cons, List.nodup_cons] at nd
    rw [List.find?_cons]
    rcases List.mem_cons.mp h with rfl | h
    · rw [show isN n c = true from decide_eq_true hn]
    · have ne : ¬ e.name = n := fun z => nd.1 (List.mem_map.mpr ⟨c, h, hn.trans z.symm⟩)
      rw [show isN n e = false from decide_eq_false ne]
      exact find_uniq nd.2 h hn
theorem find_no {n : Str} {cs : List Col} (h : cs.find? (isN n) = none) : n ∉ cs.map (·.name) := fun hm => by
  obtain ⟨c, hc, e⟩ := List.mem_map.mp hm
  exact List.find?_eq_none.mp h c hc (decide_eq_true e)
theorem filter_same {n : Str} {cs : List Col} (h : n ∉ cs.map (·.name)) : cs.filter (fun c => !decide (c.name = n)) = cs := by
  rw [List.filter_eq_self]
  intro c hc
  rw [decide_eq_false (fun z => h (List.mem_map.mpr ⟨c, hc, z⟩))]
  rfl
theorem drop_len {n : Str} : ∀ {cs : List Col}, (cs.map (·.name)).Nodup → cs.length ≤ (cs.filter (fun c => !decide (c.name = n))).length + 1
  | [], _ => Nat.zero_le _
  | e :: cs, nd => by
    rw [List.map_cons, List.nodup_cons] at nd
    rw [List.filter_cons]
    by_cases h : e.name = n
    · rw [if_neg (by rw [decide_eq_true h]; decide), filter_same (by rw [← h]; exact nd.1)]
      exact Nat.le_refl _
    · rw [if_pos (by rw [decide_eq_false h]; rfl), List.length_cons, List.length_cons]
      have := drop_len (n := n) nd.2
      omega
theorem names_map {cs : List Col} {f : Col → Col} (nd : (cs.map (·.name)).Nodup) (h : ∀ a ∈ cs, ∀ b ∈ cs, ¬ a.name = b.name → ¬ (f a).name = (f b).name) : ((cs.map f).map (·.name)).Nodup := by
  rw [List.map_map]
  unfold List.Nodup at *
  rw [List.pairwise_map] at *
  exact nd.imp_of_mem fun ha hb e => h _ ha _ hb e
theorem names_same {cs : List Col} {f : Col → Col} (nd : (cs.map (·.name)).Nodup) (h : ∀ a ∈ cs, (f a).name = a.name) : ((cs.map f).map (·.name)).Nodup := names_map nd fun a ha b hb e => by rw [h a ha, h b hb]; exact e
theorem chgV_in {c : Col} {n : Str} {g : Int} {way : Str} (hn : c.name = n) (hg : isGr (.int g) = true) (hd : isIn c.top c.dflt = true) (h : ¬ chgV c.name (.great n g way) c.dflt = .str "missing") : isIn g (chgV c.name (.great n g way) c.dflt) = true := by
  have h1 : 1 ≤ g := by
    have := Bool.and_eq_true_iff.mp hg
    exact of_decide_eq_true this.1
  have hi : ∀ j : Int, 0 ≤ j → j ≤ g → isIn g (.int j) = true := fun j a b => by
    show (decide (0 ≤ j) && decide (j ≤ g)) = true
    rw [decide_eq_true a, decide_eq_true b]
    rfl
  unfold chgV at h ⊢
  rw [if_pos (show (Ch.great n g way).name = c.name from hn.symm)] at h ⊢
  cases e : c.dflt with
  | non => rfl
  | int j =>
    rw [e] at h hd
    have h0 : 0 ≤ j := of_decide_eq_true (Bool.and_eq_true_iff.mp hd).1
    show isIn g (if g < j then abv g way else .int j) = true
    have h : ¬ (if g < j then abv g way else .int j) = V.str "missing" := h
    by_cases q : g < j
    · rw [if_pos q] at h ⊢
      unfold abv at h ⊢
      split
      · exact hi g (by omega) (Int.le_refl g)
      · rename_i q1
        rw [if_neg q1] at h
        split
        · rfl
        · rename_i q2
          rw [if_neg q2] at h
          exact absurd rfl h
    · rw [if_neg q]
      exact hi j h0 (by omega)
  | _ => rw [e] at hd; cases hd
theorem Good.map {cs : List Col} {n : Int} (g : Good cs n) {f : Col → Col} (h1 : ∀ c ∈ cs, ColOk (f c) ∧ (f c).num = c.num) (h2 : ∀ a ∈ cs, ∀ b ∈ cs, ¬ a.name = b.name → ¬ (f a).name = (f b).name) : Good (cs.map f) n where
  ok := fun c hc => by
    obtain ⟨e, he, rfl⟩ := List.mem_map.mp hc
    exact ⟨(h1 e he).1, by rw [(h1 e he).2]; exact (g.ok e he).2⟩
  one := by rw [List.length_map]; exact g.one
  six := by rw [List.length_map]; exact g.six
  names := names_map g.names h2
  nn := g.nn
theorem Good.step {cs : List Col} {n : Int} {ch : Ch} (g : Good cs n) (f : ch.fits = true) (h : hindV cs ch = .non) : Good (behind cs ch n) (numThen ch n) := by
  cases ch with
  | add nm gr d =>
    have h : addHind cs nm gr d = .non := h
    unfold addHind at h
    have f : (isNm (.str nm) && (isGr (.int gr) && isVal d)) = true := f
    rw [Bool.and_eq_true, Bool.and_eq_true] at f
    split at h
    · cases h
    rename_i h1
    split at h
    · cases h
    rename_i h2
    split at h
    · rename_i h3
      have hno : nm ∉ cs.map (·.name) := find_no (Option.not_isSome_iff_eq_none.mp h1)
      refine ⟨fun c hc => ?_, ?_, ?_, ?_, by have := g.nn; show 0 ≤ n + 1; omega⟩
      · rcases List.mem_append.mp hc with hc | hc
        · exact ⟨(g.ok c hc).1, by have := (g.ok c hc).2; show c.num < n + 1; omega⟩
        · cases List.mem_singleton.mp hc
          exact ⟨⟨f.1, f.2.1, h3, g.nn⟩, by show n < n + 1; omega⟩
      · rw [show behind cs (.add nm gr d) n = cs ++ [⟨nm, gr, d, n⟩] from rfl, List.length_append]
        exact Nat.le_add_left _ _
      · rw [show behind cs (.add nm gr d) n = cs ++ [⟨nm, gr, d, n⟩] from rfl, List.length_append]
        show cs.length + 1 ≤ 6
        omega
      · rw [show behind cs (.add nm gr d) n = cs ++ [⟨nm, gr, d, n⟩] from rfl, List.map_append, List.nodup_append]
        refine ⟨g.names, by simp, fun a ha b hb => ?_⟩
        cases List.mem_singleton.mp hb
        intro z
        have z : a = nm := z
        exact hno (by rw [← z]; exact ha)
    · cases h
  | drop nm =>
    have h : (match cs.find? (isN nm) with
      | none => V.str "unknown"
      | some _ => if cs.length = 1 then .str "only" else .non) = .non := h
    have h1 : ¬ cs.length = 1 := fun z => by
      split at h
      · cases h
      · rw [if_pos z] at h
        cases h
    refine ⟨fun c hc => g.ok c (List.mem_filter.mp hc).1, ?_, ?_, ?_, g.nn⟩
    · have := drop_len (n := nm) g.names
      have := g.one
      show 1 ≤ (cs.filter fun c => !decide (c.name = nm)).length
      omega
    · exact Nat.le_trans (List.length_filter_le _ _) g.six
    · exact g.names.sublist (List.filter_sublist.map _)
  | rename nm m =>
    have h : (match cs.find? (isN nm) with
      | none => V.str "unknown"
      | some _ => if (cs.find? (isN m)).isSome = true then .str "alive" else .non) = .non := h
    have f : (isNm (.str nm) && isNm (.str m)) = true := f
    rw [Bool.and_eq_true] at f
    have hno : m ∉ cs.map (·.name) := by
      refine find_no (Option.not_isSome_iff_eq_none.mp fun z => ?_)
      split at h
      · cases h
      · rw [if_pos z] at h
        cases h
    refine g.map (fun c hc => ?_) fun a ha b hb e => ?_
    · by_cases q : c.name = nm
      · rw [if_pos (show c.name = (Ch.rename nm m).name from q)]
        exact ⟨⟨f.2, (g.ok c hc).1.gr, (g.ok c hc).1.df, (g.ok c hc).1.nu⟩, rfl⟩
      · rw [if_neg (show ¬ c.name = (Ch.rename nm m).name from q)]
        exact ⟨(g.ok c hc).1, rfl⟩
    · have ia : ¬ a.name = m := fun z => hno (List.mem_map.mpr ⟨a, ha, z⟩)
      have ib : ¬ b.name = m := fun z => hno (List.mem_map.mpr ⟨b, hb, z⟩)
      show ¬ (if a.name = nm then { a with name := m } else a : Col).name = (if b.name = nm then { b with name := m } else b : Col).name
      by_cases qa : a.name = nm
      · rw [if_pos qa]
        by_cases qb : b.name = nm
        · exact absurd (qa.trans qb.symm) e
        · rw [if_neg qb]
          exact fun z => ib z.symm
      · rw [if_neg qa]
        by_cases qb : b.name = nm
        · rw [if_pos qb]
          exact ia
        · rw [if_neg qb]
          exact e
  | dflt nm v =>
    have h : (match cs.find? (isN nm) with
      | none => V.str "unknown"
      | some e => if isIn e.top v = true then .non else .str "above") = .non := h
    refine g.map (fun c hc => ?_) fun a ha b hb e => ?_
    · by_cases q : c.name = nm
      · rw [if_pos (show c.name = (Ch.dflt nm v).name from q)]
        rw [find_uniq g.names hc q] at h
        refine ⟨⟨(g.ok c hc).1.nm, (g.ok c hc).1.gr, ?_, (g.ok c hc).1.nu⟩, rfl⟩
        have h : (if isIn c.top v = true then V.non else .str "above") = .non := h
        split at h
        · assumption
        · cases h
      · rw [if_neg (show ¬ c.name = (Ch.dflt nm v).name from q)]
        exact ⟨(g.ok c hc).1, rfl⟩
    · show ¬ (if a.name = nm then { a with dflt := v } else a : Col).name = (if b.name = nm then { b with dflt := v } else b : Col).name
      have q : ∀ c : Col, (if c.name = nm then { c with dflt := v } else c : Col).name = c.name := fun c => by split <;> rfl
      rw [q, q]
      exact e
  | great nm gr way =>
    have h : (match cs.find? (isN nm) with
      | none => V.str "unknown"
      | some e => if chgV e.name (.great nm gr way) e.dflt = V.str "missing" then .str "default" else .non) = .non := h
    have f : (isNm (.str nm) && (isGr (.int gr) && isWy way)) = true := f
    rw [Bool.and_eq_true, Bool.and_eq_true] at f
    refine g.map (fun c hc => ?_) fun a ha b hb e => ?_
    · by_cases q : c.name = nm
      · rw [if_pos (show c.name = (Ch.great nm gr way).name from q)]
        rw [find_uniq g.names hc q] at h
        have h : (if chgV c.name (.great nm gr way) c.dflt = V.str "missing" then V.str "default" else .non) = .non := h
        refine ⟨⟨(g.ok c hc).1.nm, f.2.1, chgV_in q f.2.1 (g.ok c hc).1.df fun z => ?_, (g.ok c hc).1.nu⟩, rfl⟩
        rw [if_pos (show chgV c.name (.great nm gr way) c.dflt = V.str "missing" from z)] at h
        cases h
      · rw [if_neg (show ¬ c.name = (Ch.great nm gr way).name from q)]
        exact ⟨(g.ok c hc).1, rfl⟩
    · show ¬ (if a.name = nm then { a with top := gr, dflt := chgV a.name (.great nm gr way) a.dflt } else a : Col).name = (if b.name = nm then { b with top := gr, dflt := chgV b.name (.great nm gr way) b.dflt } else b : Col).name
      have q : ∀ c : Col, (if c.name = nm then { c with top := gr, dflt := chgV c.name (.great nm gr way) c.dflt } else c : Col).name = c.name := fun c => by split <;> rfl
      rw [q, q]
      exact e
  | fill nm i =>
    have q : ∀ c : Col, (if c.name = (Ch.fill nm i).name then chgC c (.fill nm i) else c : Col) = c := fun c => by split <;> rfl
    refine g.map (fun c hc => ?_) fun a ha b hb e => ?_
    · rw [q]
      exact ⟨(g.ok c hc).1, rfl⟩
    · rw [q, q]
      exact e

/-! columns_of_editions, where all is well; what stays right from change to change -/
/-- columns and the next number, behind changes -/
def stepC (p : List Col × Int) (ch : Ch) : List Col × Int := (behind p.1 ch p.2, numThen ch p.2)
def atC (cs : List Col) (chs : List Ch) : List Col × Int := chs.foldl stepC (cs, (cs.length : Int))
/-- the columns of the first so many editions -/
def edsTo (cs : List Col) (chs : List Ch) (n : Nat) : List (List Col) := (List.range n).map fun i => (atC cs (chs.take i)).1
theorem atC_snoc {cs : List Col} {chs : List Ch} {i : Nat} {ch : Ch} (h : chs[i]? = some ch) : atC cs (chs.take (i + 1)) = stepC (atC cs (chs.take i)) ch := by
  unfold atC
  rw [List.take_add_one, h, List.foldl_append]
  rfl
theorem edsTo_succ {cs : List Col} {chs : List Ch} {n : Nat} : edsTo cs chs (n + 1) = edsTo cs chs n ++ [(atC cs (chs.take n)).1] := by
  unfold edsTo
  rw [List.range_succ, List.map_append]
  rfl
/-- each change can be done -/
def Fits (cs : List Col) (chs : List Ch) : Prop := ∀ i ch, chs[i]? = some ch → ch.fits = true ∧ hindV (atC cs (chs.take i)).1 ch = .non
theorem Fits.good {cs : List Col} {chs : List Ch} (g : Good cs cs.length) (f : Fits cs chs) : ∀ i, i ≤ chs.length → Good (atC cs (chs.take i)).1 (atC cs (chs.take i)).2
  | 0, _ => g
  | i + 1, h => by
    have e : chs[i]? = some chs[i] := List.getElem?_eq_getElem (by omega)
    have ih := f.good g i (by omega)
    rw [atC_snoc e]
    exact ih.step (f i _ e).1 (f i _ e).2
/-- the changes at the addresses -/
inductive Chs (K : PySem.W.Frag) (H : Hp) : List Addr → List Ch → Prop
  | nil : Chs K H [] []
  | cons {a : Addr} {as : List Addr} {c : Ch} {cs : List Ch} : ChAt K H a c → Chs K H as cs → Chs K H (a :: as) (c :: cs)
theorem Chs.keep {K : PySem.W.Frag} {H H' : Hp} (s : Same H H') : ∀ {as : List Addr} {cs : List Ch}, Chs K H as cs → Chs K H' as cs
  | _, _, .nil => .nil
  | _, _, .cons h t => .cons (h.keep s) (t.keep s)
theorem Chs.len {K : PySem.W.Frag} {H : Hp} : ∀ {as : List Addr} {cs : List Ch}, Chs K H as cs → as.length = cs.length
  | _, _, .nil => rfl
  | _, _, .cons _ t => congrArg Nat.succ t.len
theorem Chs.at_ {K : PySem.W.Frag} {H : Hp} : ∀ {as : List Addr} {cs : List Ch} {i : Nat} {a : Addr}, Chs K H as cs → as[i]? = some a → ∃ c, cs[i]? = some c ∧ ChAt K H a c
  | _, _, _, _, .nil, e => by simp at e
  | _, _, 0, _, .cons h t, e => by
    simp at e
    subst e
    exact ⟨_, rfl, h⟩
  | _, _, i + 1, a, .cons h t, e => by
    obtain ⟨c, h1, h2⟩ := Chs.at_ (i := i) (a := a) t (by simpa using e)
    exact ⟨c, by simpa using h1, h2⟩
def sp_coe (K : PySem.W.Frag) : Sp := fun vs H Q _ => ∃ (l t : Addr) (as ts : List Addr) (cs : List Col) (chs : List Ch) (bb : Bool), vs = [.ref l, .ref t] ∧ H l = some (.lst (as.map V.ref)) ∧ Cols K H as cs ∧ SqB K bb H t (ts.map V.ref) ∧ Chs K H ts chs ∧ Good cs cs.length ∧ Fits cs chs ∧ chs.length ≤ 40 ∧
  ∀ (l' : Addr) (es : List Addr) (H' : Hp), H l' = none → Same H H' → H' l' = some (.lst (es.map V.ref)) → Eds K H' es (edsTo cs chs (chs.length + 1)) → Q (.ref l') H'
theorem Eds.mut {K : PySem.W.Frag} {H : Hp} {p : Addr} {o : HO} {xs : List V} (hp : H p = some (.lst xs)) : ∀ {es : List Addr} {eds : List (List Col)}, Eds K H es eds → (∀ e ∈ es, e ≠ p) → Eds K (upd H p o) es eds
  | _, _, .nil, _ => .nil
  | _, _, .cons (e := e) as h c t, hne => by
    refine .cons as (by rw [upd_ne (hne e List.mem_cons_self)]; exact h) (Cols.all c.len fun i a c' h1 h2 => ?_) (t.mut hp fun e' he => hne e' (List.mem_cons_of_mem _ he))
    obtain ⟨dx, q⟩ := c.two h1 h2
    exact ⟨dx, by rw [upd_ne (fun z => by rw [z, hp] at q; cases q)]; exact q⟩
theorem ok_columns_of_editions (T : Tx K mg) : Callee P w K mg base CX0 9 "columns_of_editions" ["first", "changes"] [] (sp_coe K) := by
  have C1 := (ok_is_listG (P := P) (w := w) (base := base) T).up (show 1 ≤ 8 by decide)
  have C2 := (ok_is_change (P := P) (w := w) (base := base) T).up (show 5 ≤ 8 by decide)
  have C3 := (ok_hindrance (P := P) (w := w) (base := base) T).up (show 5 ≤ 8 by decide)
  have C4 := ok_columns_behind (P := P) (w := w) (base := base) T
  have C5 := (ok_kind_of (P := P) (w := w) (base := base) T).up (show 1 ≤ 8 by decide)
  obtain ⟨tM, eM⟩ := mi_MOST_CHANGES T
  refine mkCallee (fd_columns_of_editions T) (mg_columns_of_editions T) sc_columns_of_editions (fun _ _ _ _ _ _ us hl => match us, hl with | [_, _], _ => rfl) (fun vs H Q E h => ?_) (fun cdv A outer s H vs Q E hr h => ?_)
  · obtain ⟨l, t, as, ts, cs, chs, bb, rfl, _⟩ := h
    rfl
  · obtain ⟨l, t, as, ts, cs, chs, bb, rfl, hl, hc, ht, hch, hgood, hfit, h40, k⟩ := h
    have nd := sc_columns_of_editions.nd
    refine ⟨_, pss_cons (ps_if (pt_not (pt_val (pcall C1 hr (pa_cons (pv 1) pa_nil)))) (pss_one ps_never) pss_nil)
      (pss_cons (ps_set (i := 2) nd rfl (Or.inl rfl) (pe_lst (pa_cons (pv 0) pa_nil)))
      (pss_cons (ps_set (i := 3) nd rfl (Or.inl rfl) (pe_callB call_len_seq (by rfl) (fr_len T) PySem.boot_len (pa_cons (pv 0) pa_nil)))
      (pss_cons (ps_for PassesOwn.never rfl (pi_enumB (by rfl) (fr_enumerate T) (pa_cons (pv 1) pa_nil)) (pg_tup rfl (pgs_cons (pg_name (i := 4) nd rfl (Or.inl rfl)) (pgs_cons (pg_name (i := 5) nd rfl (Or.inl rfl)) pgs_nil)))
        (pss_cons (ps_set (i := 6) nd rfl (Or.inl rfl) (pe_ix ix_list (pv 2) (pe_un un_neg pe_int) (fun _ _ => rfl)))
        (pss_cons (ps_if (PW.pt (pw_or (pt_not (pt_val (pcall C2 hr (pa_cons (pv 5) pa_nil)))) (pw_or1 (pt_cmpR op_notN (pcall C3 hr (pa_cons (pv 6) (pa_cons (pv 5) pa_nil))) pe_non (nomark _))))) (pss_one ps_never) pss_nil)
        (pss_cons (ps_expr (pe_bm PySem.F.plainAttrs_list PySem.F.slot_list_append PySem.F.type_list_append mt_append (pv 2) (pa_cons (pcall C4 hr (pa_cons (pv 6) (pa_cons (pv 5) (pa_cons (pv 3) pa_nil)))) pa_nil)))
        (pss_one (ps_if (pt_cmpR op_eq (pcall C5 hr (pa_cons (pv 5) pa_nil)) pe_str (nomark _)) (pss_one (ps_aug (i := 3) nd rfl (Or.inl rfl) pe_int ip_add)) pss_nil))))))
      (pss_cons (ps_if (pt_cmpR op_gt (pe_callB call_len_seq (by rfl) (fr_len T) PySem.boot_len (pa_cons (pv 1) pa_nil)) (pe_glob (v := .int 40) (by rfl) eM ⟨_, rfl⟩) (nomark _)) (pss_one ps_never) pss_nil)
      (pss_one (ps_ret (pv 2))))))), ?_⟩
    refine ⟨_, rfl, t, _, rfl, ht.or, fun H1 s1 => ⟨_, rfl, iteF ⟨_, rfl, by show 1 ≤ sizeLine; decide, fun p np => ?_⟩⟩⟩
    have hp0 : H p = none := s1.free np
    have s2 : Same H (upd H1 p (.lst [.ref l])) := s1.trans (same_new np)
    have hp2 : upd H1 p (.lst [.ref l]) p = some (.lst ([l].map V.ref)) := upd_same
    generalize upd H1 p (.lst [.ref l]) = H2 at s2 hp2 ⊢
    have lp : l ≠ p := fun z => by rw [z, hp0] at hl; cases hl
    refine ⟨_, rfl, l, _, rfl, .inl (sqL_of (s2 _ _ hl)), ?_⟩
    rw [List.length_map, hc.len]
    refine ⟨_, rfl, t, ts.map V.ref, bb, rfl, ht.keep s2, ?_⟩
    refine for_it walk_enumB (fun i σ H' => Same H H' ∧ (∃ es, es.length = i + 1 ∧ H' p = some (.lst (es.map V.ref)) ∧ Eds K H' es (edsTo cs chs (i + 1)) ∧ ∀ e ∈ es, e ≠ p) ∧ ∃ x y z, σ = [some (.ref l), some (.ref t), some (.ref p), some (.int (atC cs (chs.take i)).2), x, y, z])
      ⟨s2, ⟨[l], rfl, hp2, .cons as (s2 _ _ hl) (hc.keep s2) .nil, fun e he => by rw [List.mem_singleton.mp he]; exact lp⟩, _, _, _, rfl⟩ (fun i σ H' _ h => ht.keep h.1) ?_ ?_
    · rintro i v σ H3 H4 hi ⟨s3, ⟨es, hes, hp3, hE, hne⟩, x, y, z, rfl⟩ ⟨T1, x', y', rfl, nT, rfl, ex, ey⟩
      obtain rfl := Option.some.inj ex
      have ey : (ts.map V.ref)[i]? = some y' := ey
      rw [List.getElem?_map] at ey
      cases ha : ts[i]? with
      | none =>
        rw [ha] at ey
        cases ey
      | some a =>
        rw [ha] at ey
        obtain rfl := Option.some.inj ey
        obtain ⟨ch, hci, hat⟩ := hch.at_ ha
        have hi2 : i < chs.length := (List.getElem?_eq_some_iff.mp hci).1
        have gd := hfit.good hgood i (Nat.le_of_lt hi2)
        obtain ⟨fit, hind⟩ := hfit i ch hci
        have gd2 := gd.step fit hind
        have s4 : Same H (upd H3 T1 (.tup [.int (i : Nat), .ref a])) := s3.trans (same_new nT)
        have hp4 : upd H3 T1 (.tup [.int (i : Nat), .ref a]) p = some (.lst (es.map V.ref)) := same_new nT _ _ hp3
        have hE4 : Eds K (upd H3 T1 (.tup [.int (i : Nat), .ref a])) es (edsTo cs chs (i + 1)) := hE.keep (same_new nT)
        refine ⟨T1, _, rfl, sqT_of upd_same, rfl, _, _, rfl, _, _, rfl, rfl, ?_⟩
        generalize upd H3 T1 (.tup [.int (i : Nat), .ref a]) = H4 at s4 hp4 hE4 ⊢
        have hlast : es[i]? = some es[i] := List.getElem?_eq_getElem (by omega)
        obtain ⟨cs1, as1, hcs1, hea, hc1⟩ := hE4.at_ hlast
        have ecs : cs1 = (atC cs (chs.take i)).1 := by
          rw [edsTo_succ, List.getElem?_append_right (by unfold edsTo; rw [List.length_map, List.length_range]; exact Nat.le_refl _)] at hcs1
          unfold edsTo at hcs1
          rw [List.length_map, List.length_range, Nat.sub_self] at hcs1
          exact (Option.some.inj hcs1).symm
        subst ecs
        have am1 : atI (es.map V.ref) (-1) = some (.ref es[i]) := by
          unfold atI ixN
          rw [if_neg (by omega), if_pos (by rw [List.length_map]; omega), List.length_map, show ((-1 : Int) + (es.length : Nat)).toNat = i by omega]
          show (es.map V.ref)[i]? = _
          rw [List.getElem?_map, hlast]
          rfl
        refine ⟨_, rfl, 1, rfl, p, _, -1, _, rfl, rfl, sqL_of hp4, am1, ?_⟩
        refine ⟨_, rfl, a, ch, rfl, hat.keep s4, fit, fun H5 s5 => ⟨_, rfl, iteF ⟨_, rfl, _, rfl, es[i], a, as1, _, ch, rfl, .inl (sqL_of (s5 _ _ hea)), hc1.keep s5, fun e he => isIn_ok (gd.ok e he).1.df, (hat.keep s4).keep s5, fit, fun H6 s6 => ?_⟩⟩⟩
        rw [hind]
        refine ⟨rfl, _, rfl, iteF ?_⟩
        have s46 := s5.trans s6
        have s06 : Same H H6 := s4.trans s46
        have hp6 := s46 _ _ hp4
        have hE6 := hE4.keep s46
        have len1 : as1.length ≤ 1000 := by rw [hc1.len]; have := gd.six; omega
        refine ⟨_, rfl, .inl ⟨rfl, _, sqL_of hp6⟩, _, rfl, _, rfl, _, rfl, es[i], a, as1, _, ch, _, rfl, sqL_of (s46 _ _ hea), hc1.keep s46, hat.keep s06, len1, gd.nn, fun c hcm => (gd.ok c hcm).1, fun c hcm => (gd2.ok c hcm).1, fun e' as' H7 n7 s7 he7 hc7 => ?_⟩
        have hp7 := s7 _ _ hp6
        have e7p : e' ≠ p := fun z => by rw [z, hp6] at n7; cases n7
        refine ⟨p, _, _, rfl, rfl, hp7, ?_, ?_⟩
        · rw [List.length_map, hes]
          exact Nat.lt_of_le_of_lt (show i + 1 ≤ 1000 by omega) (by decide)
        have s8 : Same H (upd H7 p (.lst (es.map V.ref ++ [.ref e']))) := same_mut (s06.trans s7) hp0
        have hE8 : Eds K (upd H7 p (.lst (es.map V.ref ++ [.ref e']))) (es ++ [e']) (edsTo cs chs (i + 1 + 1)) := by
          rw [edsTo_succ, atC_snoc hci]
          refine Eds.mut hp7 (Eds.snoc he7 hc7 (hE6.keep s7)) fun e he => ?_
          rcases List.mem_append.mp he with he | he
          · exact hne e he
          · rw [List.mem_singleton.mp he]
            exact e7p
        have hp8 : upd H7 p (.lst (es.map V.ref ++ [.ref e'])) p = some (.lst ((es ++ [e']).map V.ref)) := by rw [upd_same, List.map_append]; rfl
        generalize upd H7 p (.lst (es.map V.ref ++ [.ref e'])) = H8 at s8 hE8 hp8 ⊢
        have hne8 : ∀ e ∈ es ++ [e'], e ≠ p := fun e he => by
          rcases List.mem_append.mp he with he | he
          · exact hne e he
          · rw [List.mem_singleton.mp he]
            exact e7p
        have hl8 : (es ++ [e']).length = i + 1 + 1 := by rw [List.length_append, hes]; rfl
        have e2 : (atC cs (chs.take (i + 1))).2 = numThen ch (atC cs (chs.take i)).2 := by rw [atC_snoc hci]; rfl
        refine ⟨_, rfl, a, ch, rfl, hat.keep s8, rfl, _, rfl, ?_⟩
        by_cases ea : ch.kind = "add"
        · rw [decide_eq_true (show V.str ch.kind = V.str "add" by rw [ea])]
          refine iteT ⟨_, rfl, _, _, rfl, rfl, s8, ⟨_, hl8, hp8, hE8, hne8⟩, some (.int (i : Nat)), some (.ref a), some (.ref es[i]), ?_⟩
          rw [e2, show numThen ch (atC cs (chs.take i)).2 = (atC cs (chs.take i)).2 + 1 from kind_add ea]
          rfl
        · rw [decide_eq_false (fun z => ea (V.str.inj z))]
          refine iteF ⟨s8, ⟨_, hl8, hp8, hE8, hne8⟩, some (.int (i : Nat)), some (.ref a), some (.ref es[i]), ?_⟩
          rw [e2, show numThen ch (atC cs (chs.take i)).2 = (atC cs (chs.take i)).2 from kind_noadd ea]
          rfl
    · rintro σ H3 ⟨s3, ⟨es, hes, hp3, hE, hne⟩, x, y, z, rfl⟩
      refine ⟨_, rfl, t, _, rfl, (ht.keep s3).or, _, _, rfl, rfl, _, rfl, ?_⟩
      rw [List.length_map, hch.len, decide_eq_false (by omega)]
      rw [List.length_map, hch.len] at hE
      exact iteF ⟨_, rfl, k p es H3 hp0 s3 hp3 hE⟩
theorem ixN_ok {n : Nat} {i : Int} (h : 0 ≤ i) (h2 : i < n) : ixN n i = some i.toNat := by
  unfold ixN
  rw [if_pos h, if_pos h2]

/-! drops -/
def gone (next : List Col) (c : Col) : Bool := (next.find? (isK c.num)).isNone
def dropStep (next : List Col) (i : Nat) (d : List V) (c : Col) : List V := if gone next c = true then d.set c.num.toNat (.int (i : Nat)) else d
def dropTo (eds : List (List Col)) (m : Nat) : Nat → List V
  | 0 => List.replicate m .non
  | i + 1 => (eds.getD i []).foldl (dropStep (eds.getD (i + 1) []) (i + 1)) (dropTo eds m i)
def dropOf (eds : List (List Col)) (m : Nat) : List V := dropTo eds m (eds.length - 1)
theorem dropStep_len (next : List Col) (i : Nat) : ∀ (cs : List Col) (d : List V), (cs.foldl (dropStep next i) d).length = d.length
  | [], d => rfl
  | c :: cs, d => by
    refine (dropStep_len next i cs _).trans ?_
    unfold dropStep
    split
    · exact List.length_set
    · rfl
theorem dropTo_len (eds : List (List Col)) (m : Nat) : ∀ i, (dropTo eds m i).length = m
  | 0 => List.length_replicate
  | i + 1 => (dropStep_len _ _ _ _).trans (dropTo_len eds m i)
theorem flat_rep : ∀ n : Nat, (List.replicate n [V.non]).flatten = List.replicate n V.non
  | 0 => rfl
  | n + 1 => by
    rw [List.replicate_succ, List.flatten_cons, flat_rep n]
    rfl
def sp_drops (K : PySem.W.Frag) : Sp := fun vs H Q _ => ∃ (l : Addr) (es : List Addr) (eds : List (List Col)) (m : Nat), vs = [.ref l, .int (m : Nat)] ∧ H l = some (.lst (es.map V.ref)) ∧ Eds K H es eds ∧ 1 ≤ eds.length ∧ eds.length ≤ 50 ∧ m ≤ 100000 ∧ (∀ cs ∈ eds, ∀ c ∈ cs, 0 ≤ c.num ∧ c.num < m) ∧
  ∀ (p : Addr) (H' : Hp), H p = none → Same H H' → H' p = some (.lst (dropOf eds m)) → Q (.ref p) H'
theorem ok_drops (T : Tx K mg) : Callee P w K mg base CX0 3 "drops" ["editions", "many"] [] (sp_drops K) := by
  have C1 := ok_column_numbered (P := P) (w := w) (base := base) T
  refine mkCallee (fd_drops T) (mg_drops T) sc_drops (fun _ _ _ _ _ _ us hl => match us, hl with | [_, _], _ => rfl) (fun vs H Q E h => ?_) (fun cdv A outer s H vs Q E hr h => ?_)
  · obtain ⟨l, es, eds, m, rfl, _⟩ := h
    rfl
  · obtain ⟨l, es, eds, m, rfl, hl, he, h1, h50, hm, hn, k⟩ := h
    have nd := sc_drops.nd
    refine ⟨_, pss_cons (ps_set (i := 2) nd rfl (Or.inl rfl) (pe_op op_rep (pe_lst (pa_cons pe_non pa_nil)) (pv 1)))
      (pss_cons (ps_for PassesOwn.never rfl (pi_range2 (by rfl) (fr_range T) (pa_cons pe_int (pa_cons (pe_callB call_len_seq (by rfl) (fr_len T) PySem.boot_len (pa_cons (pv 0) pa_nil)) pa_nil))) (pg_name (i := 3) nd rfl (Or.inl rfl))
        (pss_one (ps_for PassesOwn.never rfl (pi_list (pe_ix ix_list (pv 0) (pe_op op_sub (pv 3) pe_int) (fun _ _ => rfl))) (pg_name (i := 4) nd rfl (Or.inl rfl))
          (pss_one (ps_if (pt_cmpR op_isN (pcall C1 hr (pa_cons (pe_ix ix_list (pv 0) (pv 3) (fun _ _ => rfl)) (pa_cons (pe_fld (pv 4) rfl) pa_nil))) pe_non (nomark _))
            (pss_one (ps_asg (pv 3) (pg_sub (pv 2) (pe_fld (pv 4) rfl) set_list))) pss_nil))))) (pss_one (ps_ret (pv 2)))), ?_⟩
    have m0 : Eds K H es eds := he
    have lenE := he.len
    refine ⟨by show 1 ≤ sizeLine; decide, fun q nq => ⟨_, rfl, q, (m : Nat), [.non], rfl, rfl, upd_same, by omega, by omega, ?_, fun d nd' => ?_⟩⟩
    · rw [Int.toNat_natCast]
      exact Nat.le_trans (by show 1 * m ≤ 100000; omega) (by decide)
    rw [Int.toNat_natCast, flat_rep]
    have hd0 : H d = none := (same_new nq).free nd'
    have s0 : Same H (upd (upd H q (.lst [.non])) d (.lst (List.replicate m .non))) := (same_new nq).trans (same_new nd')
    have hd : upd (upd H q (.lst [.non])) d (.lst (List.replicate m .non)) d = some (.lst (dropTo eds m 0)) := upd_same
    generalize upd (upd H q (.lst [.non])) d (.lst (List.replicate m .non)) = H1 at s0 hd ⊢
    refine ⟨_, rfl, l, _, rfl, .inl (sqL_of (s0 _ _ hl)), 1, _, rfl, ?_, ?_⟩
    · rw [List.length_map]
      omega
    rw [List.length_map, lenE]
    refine for_range (fun i σ H' => Same H H' ∧ H' d = some (.lst (dropTo eds m i)) ∧ ∃ x y, σ = [some (.ref l), some (.int (m : Nat)), some (.ref d), x, y]) ⟨s0, hd, _, _, rfl⟩ ?_ ?_
    · rintro i σ H1 hi ⟨s1, hd1, x, y, rfl⟩
      have hi1 : i < es.length := by omega
      have hi2 : i + 1 < es.length := by omega
      obtain ⟨cs, as, hcs, hea, hc⟩ := he.at_ (List.getElem?_eq_getElem hi1)
      obtain ⟨cs2, as2, hcs2, hea2, hc2⟩ := he.at_ (List.getElem?_eq_getElem hi2)
      have hgd : eds.getD i [] = cs := by rw [List.getD_eq_getElem?_getD, hcs]; rfl
      have hgd2 : eds.getD (i + 1) [] = cs2 := by rw [List.getD_eq_getElem?_getD, hcs2]; rfl
      have a1 : atI (es.map V.ref) (1 + (i : Int) - 1) = some (.ref es[i]) := by
        unfold atI
        rw [ixN_ok (by omega) (by rw [List.length_map]; omega), show (1 + (i : Int) - 1).toNat = i by omega]
        show (es.map V.ref)[i]? = _
        rw [List.getElem?_map, List.getElem?_eq_getElem hi1]
        rfl
      have a2 : atI (es.map V.ref) (1 + (i : Int)) = some (.ref es[i + 1]) := by
        unfold atI
        rw [ixN_ok (by omega) (by rw [List.length_map]; omega), show (1 + (i : Int)).toNat = i + 1 by omega]
        show (es.map V.ref)[i + 1]? = _
        rw [List.getElem?_map, List.getElem?_eq_getElem hi2]
        rfl
      refine ⟨_, rfl, _, rfl, 1 + (i : Int), 1, rfl, rfl, l, _, 1 + (i : Int) - 1, _, rfl, rfl, sqL_of (s1 _ _ hl), a1, es[i], rfl, ⟨_, sqL_of (s1 _ _ hea)⟩, ?_⟩
      refine for_list (xs := as.map V.ref) (fun j σ H' => Same H H' ∧ H' d = some (.lst ((cs.take j).foldl (dropStep cs2 (i + 1)) (dropTo eds m i))) ∧ ∃ y, σ = [some (.ref l), some (.int (m : Nat)), some (.ref d), some (.int (1 + (i : Int))), y]) ⟨s1, hd1, _, rfl⟩ (fun j σ H' _ h => sqL_of (h.1 _ _ hea)) ?_ ?_
      · rintro j x σ H3 hx ⟨s3, hd3, z, rfl⟩
        rw [List.getElem?_map] at hx
        cases ha : as[j]? with
        | none =>
          rw [ha] at hx
          cases hx
        | some a =>
          rw [ha] at hx
          obtain rfl := Option.some.inj hx
          obtain ⟨c, hci, dx, hat⟩ := hc.at_ ha
          have et : cs.take (j + 1) = cs.take j ++ [c] := by rw [List.take_add_one, hci]; rfl
          have cn := hn cs (List.mem_of_getElem? hcs) c (List.mem_of_getElem? hci)
          refine ⟨_, rfl, _, rfl, l, _, 1 + (i : Int), _, rfl, rfl, sqL_of (s3 _ _ hl), a2, _, rfl, a, _, dx, _, _, rfl, s3 _ _ hat, cl_Column T, na_Column_number T, colFs_number, es[i + 1], as2, cs2, c.num, rfl, sqL_of (s3 _ _ hea2), hc2.keep s3, fun v hv => ?_⟩
          refine ⟨rfl, _, rfl, ?_⟩
          have eg : decide (v = V.non) = gone cs2 c := by
            unfold gone
            rcases hv with ⟨rfl, e⟩ | ⟨i', a', c', rfl, _, _, e⟩
            · rw [e]; rfl
            · rw [e]; rfl
          rw [eg]
          cases hg : gone cs2 c with
          | true =>
            refine iteT ⟨_, rfl, _, rfl, _, rfl, a, _, dx, _, _, rfl, s3 _ _ hat, cl_Column T, na_Column_number T, colFs_number, d, _, c.num, c.num.toNat, rfl, rfl, hd3, ixN_ok cn.1 ?_, same_mut s3 hd0, ?_, _, rfl⟩
            · rw [dropStep_len, dropTo_len]
              exact cn.2
            · rw [upd_same, et, List.foldl_append, List.foldl_cons, List.foldl_nil]
              show _ = some (HO.lst (if gone cs2 c = true then _ else _))
              rw [if_pos hg, show (1 + (i : Int)) = ((i + 1 : Nat) : Int) by omega]
          | false =>
            refine iteF ⟨s3, ?_, _, rfl⟩
            rw [hd3, et, List.foldl_append, List.foldl_cons, List.foldl_nil]
            show _ = some (HO.lst (if gone cs2 c = true then _ else _))
            rw [if_neg (by rw [hg]; decide)]
      · rintro σ H3 ⟨s3, hd3, z, rfl⟩
        refine ⟨s3, ?_, _, _, rfl⟩
        rw [List.length_map, hc.len, List.take_length] at hd3
        rw [hd3]
        show _ = some (HO.lst ((eds.getD i []).foldl (dropStep (eds.getD (i + 1) []) (i + 1)) (dropTo eds m i)))
        rw [hgd, hgd2]
    · rintro σ H1 ⟨s1, hd1, x, y, rfl⟩
      have e : (((eds.length : Nat) : Int) - 1).toNat = eds.length - 1 := by omega
      rw [e] at hd1
      exact ⟨_, rfl, k d H1 hd0 s1 hd1⟩
/-! History.__init__, of lists where all is well; what stands in a History -/
def histFs (e c b d : Addr) : List (Str × V) := [("_editions", .ref e), ("_changes", .ref c), ("_births", .ref b), ("_drops", .ref d)]
theorem hist_put2 (e c : Addr) : putF "_changes" (.ref c) (putF "_editions" (.ref e) []) = ([("_editions", .ref e), ("_changes", .ref c)] : List (Str × V)) := by
  have h1 : ¬ (("_editions" : Str) = "_changes") := by decide +kernel
  simp only [putF, if_neg h1]
theorem hist_put3 (e c b : Addr) : putF "_births" (.ref b) (putF "_changes" (.ref c) (putF "_editions" (.ref e) [])) = ([("_editions", .ref e), ("_changes", .ref c), ("_births", .ref b)] : List (Str × V)) := by
  have h1 : ¬ (("_editions" : Str) = "_births") := by decide +kernel
  have h2 : ¬ (("_changes" : Str) = "_births") := by decide +kernel
  rw [hist_put2]
  simp only [putF, if_neg h1, if_neg h2]
theorem hist_put4 (e c b d : Addr) : putF "_drops" (.ref d) (putF "_births" (.ref b) (putF "_changes" (.ref c) (putF "_editions" (.ref e) []))) = histFs e c b d := by
  have h1 : ¬ (("_editions" : Str) = "_drops") := by decide +kernel
  have h2 : ¬ (("_changes" : Str) = "_drops") := by decide +kernel
  have h3 : ¬ (("_births" : Str) = "_drops") := by decide +kernel
  rw [hist_put3]
  simp only [putF, if_neg h1, if_neg h2, if_neg h3]
  rfl
theorem histFs_editions {e c b d : Addr} : (histFs e c b d).lookup ("_editions" : Str) = some (.ref e) := by
  unfold histFs
  simp [List.lookup]
theorem histFs_changes {e c b d : Addr} : (histFs e c b d).lookup ("_changes" : Str) = some (.ref c) := by
  have h1 : (("_changes" : Str) == "_editions") = false := by decide +kernel
  unfold histFs
  simp [List.lookup, h1]
theorem histFs_births {e c b d : Addr} : (histFs e c b d).lookup ("_births" : Str) = some (.ref b) := by
  have h1 : (("_births" : Str) == "_editions") = false := by decide +kernel
  have h2 : (("_births" : Str) == "_changes") = false := by decide +kernel
  unfold histFs
  simp [List.lookup, h1, h2]
theorem histFs_drops {e c b d : Addr} : (histFs e c b d).lookup ("_drops" : Str) = some (.ref d) := by
  have h1 : (("_drops" : Str) == "_editions") = false := by decide +kernel
  have h2 : (("_drops" : Str) == "_changes") = false := by decide +kernel
  have h3 : (("_drops" : Str) == "_births") = false := by decide +kernel
  unfold histFs
  simp [List.lookup, h1, h2, h3]
/-- the numbers of a beginning are those of the places -/
def Placed (cs : List Col) : Prop := ∀ (i : Nat) (c : Col), cs[i]? = some c → c.num = ((i : Nat) : Int)
theorem bornSame {i : Nat} : ∀ {cs : List Col} {b : List Int}, (∀ c ∈ cs, c.num < b.length) → cs.foldl (bornStep i) b = b
  | [], _, _ => rfl
  | c :: cs, b, h => by
    rw [List.foldl_cons, bornStep_neg (by have := h c List.mem_cons_self; omega)]
    exact bornSame fun c' hc => h c' (List.mem_cons_of_mem _ hc)
theorem bornAll {i : Nat} : ∀ {cs : List Col} {b : List Int}, (∀ j c, cs[j]? = some c → c.num = ((b.length + j : Nat) : Int)) → (cs.foldl (bornStep i) b).length = b.length + cs.length
  | [], _, _ => rfl
  | c :: cs, b, h => by
    have h0 : c.num = b.length := by have := h 0 c rfl; simpa using this
    have ht : ∀ j c', cs[j]? = some c' → c'.num = (((b ++ [(i : Int)]).length + j : Nat) : Int) := fun j c' hc => by
      have := h (j + 1) c' (by simpa using hc)
      rw [List.length_append]
      show c'.num = ((b.length + 1 + j : Nat) : Int)
      omega
    have ih := bornAll (i := i) ht
    have e1 : (b ++ [(i : Int)]).length = b.length + 1 := by rw [List.length_append]; rfl
    rw [List.foldl_cons, bornStep_pos h0, ih, e1, List.length_cons]
    omega
theorem edsTo_get {cs : List Col} {chs : List Ch} {n i : Nat} (h : i < n) : (edsTo cs chs n)[i]? = some (atC cs (chs.take i)).1 := by
  unfold edsTo
  rw [List.getElem?_map, List.getElem?_range h]
  rfl
theorem edsTo_len {cs : List Col} {chs : List Ch} {n : Nat} : (edsTo cs chs n).length = n := by
  unfold edsTo
  rw [List.length_map, List.length_range]
theorem born_step {cs : List Col} {n : Int} {ch : Ch} {i : Nat} {b : List Int} (g : Good cs n) (g2 : Good (behind cs ch n) (numThen ch n)) (hb : (b.length : Int) = n) : (((behind cs ch n).foldl (bornStep i) b).length : Int) = numThen ch n := by
  by_cases k : ch.kind = "add"
  · rw [kind_add k]
    cases ch with
    | add nm gr d =>
      have hs : cs.foldl (bornStep i) b = b := bornSame fun c hc => by rw [hb]; exact (g.ok c hc).2
      rw [show behind cs (.add nm gr d) n = cs ++ [⟨nm, gr, d, n⟩] from rfl, List.foldl_append, hs, List.foldl_cons, List.foldl_nil, bornStep_pos (show n = _ from hb.symm), List.length_append]
      show ((b.length + 1 : Nat) : Int) = _
      omega
    | drop _ => exact absurd (show ("drop" : Str) = "add" from k) (by decide +kernel)
    | rename _ _ => exact absurd (show ("rename" : Str) = "add" from k) (by decide +kernel)
    | dflt _ _ => exact absurd (show ("default" : Str) = "add" from k) (by decide +kernel)
    | great _ _ _ => exact absurd (show ("greatest" : Str) = "add" from k) (by decide +kernel)
    | fill _ _ => exact absurd (show ("fill" : Str) = "add" from k) (by decide +kernel)
  · rw [kind_noadd k] at g2 ⊢
    have hs : (behind cs ch n).foldl (bornStep i) b = b := bornSame fun c hc => by rw [hb]; exact (g2.ok c hc).2
    rw [hs]
    exact hb
theorem born_zero {cs : List Col} {chs : List Ch} (pl : Placed cs) : ((bornTo (edsTo cs chs (chs.length + 1)) 1).length : Int) = (cs.length : Int) := by
  show (((List.getD (edsTo cs chs (chs.length + 1)) 0 []).foldl (bornStep 0) []).length : Int) = (cs.length : Int)
  rw [List.getD_eq_getElem?_getD, edsTo_get (by omega)]
  show ((cs.foldl (bornStep 0) []).length : Int) = _
  have ha := bornAll (i := 0) (cs := cs) (b := []) fun j c hc => by rw [pl j c hc]; simp
  rw [ha]
  simp
theorem Fits.born {cs : List Col} {chs : List Ch} (pl : Placed cs) (g : Good cs cs.length) (f : Fits cs chs) (i : Nat) (h : i ≤ chs.length) : ((bornTo (edsTo cs chs (chs.length + 1)) (i + 1)).length : Int) = (atC cs (chs.take i)).2 := by
  induction i with
  | zero => exact born_zero pl
  | succ i ih =>
    have ih := ih (by omega)
    obtain ⟨ch, e⟩ : ∃ ch, chs[i]? = some ch := ⟨_, List.getElem?_eq_getElem (by omega)⟩
    have gd := f.good g i (by omega)
    have gd2 := gd.step (f i _ e).1 (f i _ e).2
    have eb : bornTo (edsTo cs chs (chs.length + 1)) (i + 1 + 1) = (behind (atC cs (chs.take i)).1 ch (atC cs (chs.take i)).2).foldl (bornStep (i + 1)) (bornTo (edsTo cs chs (chs.length + 1)) (i + 1)) := by
      show (List.getD (edsTo cs chs (chs.length + 1)) (i + 1) []).foldl (bornStep (i + 1)) _ = _
      rw [List.getD_eq_getElem?_getD, edsTo_get (by omega), atC_snoc e]
      rfl
    rw [atC_snoc e, eb]
    exact born_step gd gd2 ih
theorem grow1 {cs : List Col} {chs : List Ch} (j : Nat) : (atC cs (chs.take j)).2 ≤ (atC cs (chs.take (j + 1))).2 := by
  cases hj : chs[j]? with
  | none =>
    have : chs.take (j + 1) = chs.take j := by rw [List.take_add_one, hj]; simp
    rw [this]
    exact Int.le_refl _
  | some ch =>
    rw [atC_snoc hj]
    show _ ≤ numThen ch (atC cs (chs.take j)).2
    by_cases k : ch.kind = "add"
    · rw [kind_add k]
      omega
    · rw [kind_noadd k]
      exact Int.le_refl _
theorem grows {cs : List Col} {chs : List Ch} {i j : Nat} (h : i ≤ j) : (atC cs (chs.take i)).2 ≤ (atC cs (chs.take j)).2 := by
  induction j with
  | zero =>
    obtain rfl : i = 0 := by omega
    exact Int.le_refl _
  | succ j ih =>
    by_cases e : i = j + 1
    · rw [e]
      exact Int.le_refl _
    · exact Int.le_trans (ih (by omega)) (grow1 j)
/-- a History stands at h: its first columns (numbered) and its changes -/
def bornH (cs : List Col) (chs : List Ch) : List Int := bornOf (edsTo cs chs (chs.length + 1))
def HistAt (K : PySem.W.Frag) (H : Hp) (h : Addr) (cs : List Col) (chs : List Ch) : Prop := ∃ (dx e c b d : Addr) (es ts : List Addr), H h = some (.ins (He.ga K "History") dx (histFs e c b d)) ∧ H e = some (.lst (es.map V.ref)) ∧ Eds K H es (edsTo cs chs (chs.length + 1)) ∧ H c = some (.lst (ts.map V.ref)) ∧ Chs K H ts chs ∧
  H b = some (.lst ((bornH cs chs).map V.int)) ∧ H d = some (.lst (dropOf (edsTo cs chs (chs.length + 1)) (bornH cs chs).length))
theorem HistAt.keep {K : PySem.W.Frag} {H H' : Hp} {h : Addr} {cs : List Col} {chs : List Ch} (s : Same H H') (q : HistAt K H h cs chs) : HistAt K H' h cs chs := by
  obtain ⟨dx, e, c, b, d, es, ts, h1, h2, h3, h4, h5, h6, h7⟩ := q
  exact ⟨dx, e, c, b, d, es, ts, s _ _ h1, s _ _ h2, h3.keep s, s _ _ h4, h5.keep s, s _ _ h6, s _ _ h7⟩
/-- a History whose lists of births and drops were not there at H0 -/
def HistN (K : PySem.W.Frag) (H0 H : Hp) (h : Addr) (cs : List Col) (chs : List Ch) : Prop := ∃ (dx e c b d : Addr) (es ts : List Addr), (H h = some (.ins (He.ga K "History") dx (histFs e c b d)) ∧ H e = some (.lst (es.map V.ref)) ∧ Eds K H es (edsTo cs chs (chs.length + 1)) ∧ H c = some (.lst (ts.map V.ref)) ∧ Chs K H ts chs ∧
  H b = some (.lst ((bornH cs chs).map V.int)) ∧ H d = some (.lst (dropOf (edsTo cs chs (chs.length + 1)) (bornH cs chs).length))) ∧ H0 b = none ∧ H0 d = none
theorem HistN.at_ {K : PySem.W.Frag} {H0 H : Hp} {h : Addr} {cs : List Col} {chs : List Ch} (q : HistN K H0 H h cs chs) : HistAt K H h cs chs := by
  obtain ⟨dx, e, c, b, d, es, ts, q, _⟩ := q
  exact ⟨dx, e, c, b, d, es, ts, q⟩
/-- what may be a History: columns numbered by places, changes that can be done -/
structure HistOk (cs : List Col) (chs : List Ch) : Prop where
  pl : Placed cs
  g : Good cs cs.length
  f : Fits cs chs
  few : chs.length ≤ 40
theorem HistOk.born {cs : List Col} {chs : List Ch} (o : HistOk cs chs) : ((bornH cs chs).length : Int) = (atC cs chs).2 := by
  have := o.f.born o.pl o.g chs.length (Nat.le_refl _)
  rw [List.take_length] at this
  unfold bornH bornOf
  rw [edsTo_len]
  exact this
theorem HistOk.nums {cs : List Col} {chs : List Ch} (o : HistOk cs chs) : ∀ cs' ∈ edsTo cs chs (chs.length + 1), ∀ c ∈ cs', 0 ≤ c.num ∧ c.num < (bornH cs chs).length := by
  intro cs' hc' c hc
  obtain ⟨i, hi, rfl⟩ := List.mem_map.mp hc'
  have hi' : i ≤ chs.length := by have := List.mem_range.mp hi; omega
  have gd := o.f.good o.g i hi'
  have := (gd.ok c hc).2
  have e := grows (cs := cs) (chs := chs) hi'
  rw [List.take_length] at e
  rw [o.born]
  exact ⟨(gd.ok c hc).1.nu, by omega⟩
theorem HistOk.few6 {cs : List Col} {chs : List Ch} (o : HistOk cs chs) : ∀ cs' ∈ edsTo cs chs (chs.length + 1), cs'.length ≤ 1000 := by
  intro cs' hc'
  obtain ⟨i, hi, rfl⟩ := List.mem_map.mp hc'
  have hi' : i ≤ chs.length := by have := List.mem_range.mp hi; omega
  have := (o.f.good o.g i hi').six
  omega
theorem placed_numb (cs : List Col) : Placed (numb cs) := by
  intro i c h
  unfold numb at h
  rw [List.getElem?_mapIdx, Option.map_eq_some_iff] at h
  obtain ⟨c', _, e⟩ := h
  rw [← e]
def sp_Hist_init (K : PySem.W.Frag) : Sp := fun vs H Q _ => ∃ (h dx l t : Addr) (as ts : List Addr) (cs : List Col) (chs : List Ch), vs = [.ref h, .ref l, .ref t] ∧ H h = some (.ins (He.ga K "History") dx []) ∧ H l = some (.lst (as.map V.ref)) ∧ Cols K H as cs ∧ H t = some (.lst (ts.map V.ref)) ∧ Chs K H ts chs ∧
  (∀ c ∈ cs, ColOk c) ∧ HistOk (numb cs) chs ∧ ∀ (H' : Hp), HistN K H H' h (numb cs) chs → (∀ (b : Addr) (o : HO), b ≠ h → H b = some o → H' b = some o) → Q .non H'
def sp_Hist_initB (K : PySem.W.Frag) : Sp := fun vs H Q _ => ∃ (h dx l t : Addr) (as ts : List Addr) (cs : List Col) (chs : List Ch) (bb : Bool), vs = [.ref h, .ref l, .ref t] ∧ H h = some (.ins (He.ga K "History") dx []) ∧ H l = some (.lst (as.map V.ref)) ∧ Cols K H as cs ∧ SqB K bb H t (ts.map V.ref) ∧ Chs K H ts chs ∧
  (∀ c ∈ cs, ColOk c) ∧ HistOk (numb cs) chs ∧ ∀ (H' : Hp), HistN K H H' h (numb cs) chs → (∀ (b : Addr) (o : HO), b ≠ h → H b = some o → H' b = some o) → Q .non H'
theorem numb_names (cs : List Col) : (numb cs).map (·.name) = cs.map (·.name) := by
  unfold numb
  refine List.ext_getElem? fun i => ?_
  rw [List.getElem?_map, List.getElem?_mapIdx, List.getElem?_map]
  cases cs[i]? <;> rfl
theorem numb_len (cs : List Col) : (numb cs).length = cs.length := by unfold numb; rw [List.length_mapIdx]
/-- all but what stands at h is as it was -/
def Up (h : Addr) (H H' : Hp) : Prop := ∀ b o, b ≠ h → H b = some o → H' b = some o
theorem Cols.up {K : PySem.W.Frag} {H H' : Hp} {h C dx : Addr} {fs : List (Str × V)} (u : Up h H H') (hh : H h = some (.ins C dx fs)) (nf : fs.lookup ("name" : Str) = none) : ∀ {as : List Addr} {cs : List Col}, Cols K H as cs → Cols K H' as cs
  | _, _, .nil => .nil
  | _, _, .cons (a := a) (c := c) q t => .cons (by
      obtain ⟨dy, q⟩ := q
      refine ⟨dy, u _ _ (fun z => ?_) q⟩
      rw [z, hh] at q
      have e := (HO.ins.inj (Option.some.inj q)).2.2
      rw [e, colFs_name] at nf
      cases nf) (t.up u hh nf)
theorem Eds.up {K : PySem.W.Frag} {H H' : Hp} {h C dx : Addr} {fs : List (Str × V)} (u : Up h H H') (hh : H h = some (.ins C dx fs)) (nf : fs.lookup ("name" : Str) = none) : ∀ {es : List Addr} {eds : List (List Col)}, Eds K H es eds → Eds K H' es eds
  | _, _, .nil => .nil
  | _, _, .cons as q c t => .cons as (u _ _ (fun z => by rw [z, hh] at q; cases q) q) (c.up u hh nf) (t.up u hh nf)
theorem Chs.up {K : PySem.W.Frag} {H H' : Hp} {h C dx : Addr} {fs : List (Str × V)} (u : Up h H H') (hh : H h = some (.ins C dx fs)) : ∀ {as : List Addr} {cs : List Ch}, Chs K H as cs → Chs K H' as cs
  | _, _, .nil => .nil
  | _, _, .cons q t => .cons (by
      rcases q with (q | ⟨o, q⟩) | q
      · exact .inl (.inl (u _ _ (fun z => by rw [z, hh] at q; cases q) q))
      · exact .inl (.inr ⟨o, u _ _ (fun z => by rw [z, hh] at q; cases q) q⟩)
      · exact .inr q) (t.up u hh)
theorem lk_e2 {e c : Addr} : ([("_editions", .ref e), ("_changes", .ref c)] : List (Str × V)).lookup ("_editions" : Str) = some (.ref e) := by simp [List.lookup]
theorem lk_e3 {e c b : Addr} : ([("_editions", .ref e), ("_changes", .ref c), ("_births", .ref b)] : List (Str × V)).lookup ("_editions" : Str) = some (.ref e) := by simp [List.lookup]
theorem lk_b3 {e c b : Addr} : ([("_editions", .ref e), ("_changes", .ref c), ("_births", .ref b)] : List (Str × V)).lookup ("_births" : Str) = some (.ref b) := by
  have h1 : (("_births" : Str) == "_editions") = false := by decide +kernel
  have h2 : (("_births" : Str) == "_changes") = false := by decide +kernel
  simp [List.lookup, h1, h2]
theorem ok_Hist_initB (T : Tx K mg) : ∃ fd, FnOk P w K mg base CX0 11 (He.ma K (He.ga K "History") "__init__") fd ["self", "columns", "changes"] (sp_Hist_initB K) ∧
    FunD K "__init__" "History.__init__" (defArgs s_History___init__) (defBody s_History___init__) (defScope s_History___init__) (d_History___init__.dvs K) (d_History___init__.kws K) (He.ma K (He.ga K "History") "__init__") fd := by
  have C1 := (ok_numbered_columns (P := P) (w := w) (base := base) T).up (show 7 ≤ 10 by decide)
  have C2 := (ok_columns_of_editions (P := P) (w := w) (base := base) T).up (show 9 ≤ 10 by decide)
  have C3 := (ok_births (P := P) (w := w) (base := base) T).up (show 1 ≤ 10 by decide)
  have C4 := (ok_drops (P := P) (w := w) (base := base) T).up (show 3 ≤ 10 by decide)
  obtain ⟨fd, F⟩ := fd_History___init__ T
  refine ⟨fd, F.ok (CX := CX0) sc_History___init__ (fun vs H Q E h => ?_) (fun cdv A outer s H vs Q E hr h => ?_), F⟩
  · obtain ⟨h, dx, l, t, as, ts, cs, chs, bb, rfl, _⟩ := h
    rfl
  suffices hh : ∃ t, PSs (cxOf CX0 P w K mg base ["self", "columns", "changes"] "History.__init__" (defScope s_History___init__) (He.ma K (He.ga K "History") "__init__") cdv A outer s H E).nox (defBody s_History___init__) t ∧
      t { nx := fun _ H' => Q .non H', rt := Q } (start ["self", "columns", "changes"] vs) H by
    obtain ⟨t, h1, h2⟩ := hh
    exact ⟨t, h1.nox, h2⟩
  obtain ⟨h, dx, l, t, as, ts, cs, chs, bb, rfl, hh, hl, hc, ht, hch, hok, ho, k⟩ := h
  have cl := cl_History T
  refine ⟨_, pss_cons (ps_fld (pv 0) (pcall C2 hr (pa_cons (pcall C1 hr (pa_cons (pv 1) pa_nil)) (pa_cons (pv 2) pa_nil))) rfl)
    (pss_cons (ps_fld (pv 0) (pe_callTy call_list_of (by rfl) (fr_list T) (by decide +kernel) (pa_cons (pv 2) pa_nil)) rfl)
    (pss_cons (ps_fld (pv 0) (pcall C3 hr (pa_cons (pe_fld (pv 0) rfl) pa_nil)) rfl)
    (pss_one (ps_fld (pv 0) (pcall C4 hr (pa_cons (pe_fld (pv 0) rfl) (pa_cons (pe_callB call_len_seq (by rfl) (fr_len T) PySem.boot_len (pa_cons (pe_fld (pv 0) rfl) pa_nil)) pa_nil))) rfl)))), ?_⟩
  have one : 1 ≤ cs.length := by have := ho.g.one; rw [numb_len] at this; exact this
  have six : cs.length ≤ 6 := by have := ho.g.six; rw [numb_len] at this; exact this
  have nms : (cs.map (·.name)).Nodup := by have := ho.g.names; rw [numb_names] at this; exact this
  refine ⟨_, rfl, l, as, cs, rfl, hl, hc, one, six, nms, hok, fun l1 as1 H1 n1 s1 h1 c1 => ⟨_, rfl, l1, t, as1, ts, numb cs, chs, bb, rfl, h1, c1, ht.keep s1, hch.keep s1, ho.g, ho.f, ho.few, fun e es H2 n2 s2 he hE => ?_⟩⟩
  have s02 := s1.trans s2
  have hh2 := s02 _ _ hh
  have lk : ([] : List (Str × V)).lookup ("name" : Str) = none := rfl
  have eh : e ≠ h := fun z => by rw [z, hh2] at he; cases he
  refine ⟨_, rfl, h, _, dx, _, rfl, hh2, cl, na_History__editions T, (by show 0 < 1000; decide), ?_⟩
  have u3 : Up h H2 (upd H2 h (.ins (He.ga K "History") dx [("_editions", .ref e)])) := fun b o nb q => by rw [upd_ne nb]; exact q
  have hh3 : upd H2 h (.ins (He.ga K "History") dx [("_editions", .ref e)]) h = some (.ins (He.ga K "History") dx [("_editions", .ref e)]) := upd_same
  show tSeq _ _ _ _ (upd H2 h (.ins (He.ga K "History") dx [("_editions", .ref e)]))
  generalize upd H2 h (.ins (He.ga K "History") dx [("_editions", .ref e)]) = H3 at u3 hh3 ⊢
  have ht3 : SqB K bb H3 t (ts.map V.ref) := (ht.keep s02).up u3 hh2
  refine ⟨_, rfl, t, _, rfl, ht3.or, fun c nc => ?_⟩
  have hc4 : upd H3 c (.lst (ts.map V.ref)) c = some (.lst (ts.map V.ref)) := upd_same
  have u4 : Up h H2 (upd H3 c (.lst (ts.map V.ref))) := fun b o nb q => same_new nc _ _ (u3 b o nb q)
  have hh4 : upd H3 c (.lst (ts.map V.ref)) h = some (.ins (He.ga K "History") dx [("_editions", .ref e)]) := same_new nc _ _ hh3
  have ch : c ≠ h := fun z => by rw [z, hh3] at nc; cases nc
  generalize upd H3 c (.lst (ts.map V.ref)) = H4 at u4 hh4 hc4 ⊢
  refine ⟨_, rfl, h, _, dx, _, rfl, hh4, cl, na_History__changes T, (by show 1 < 1000; decide), ?_⟩
  rw [show putF ("_changes" : Str) (.ref c) [("_editions", .ref e)] = ([("_editions", .ref e), ("_changes", .ref c)] : List (Str × V)) from hist_put2 e c]
  have u5 : Up h H2 (upd H4 h (.ins (He.ga K "History") dx [("_editions", .ref e), ("_changes", .ref c)])) := fun b o nb q => by rw [upd_ne nb]; exact u4 b o nb q
  have hh5 : upd H4 h (.ins (He.ga K "History") dx [("_editions", .ref e), ("_changes", .ref c)]) h = some (.ins (He.ga K "History") dx [("_editions", .ref e), ("_changes", .ref c)]) := upd_same
  have hc5 : upd H4 h (.ins (He.ga K "History") dx [("_editions", .ref e), ("_changes", .ref c)]) c = some (.lst (ts.map V.ref)) := by rw [upd_ne ch]; exact hc4
  generalize upd H4 h (.ins (He.ga K "History") dx [("_editions", .ref e), ("_changes", .ref c)]) = H5 at u5 hh5 hc5 ⊢
  have hE5 : Eds K H5 es (edsTo (numb cs) chs (chs.length + 1)) := hE.up u5 hh2 lk
  have he5 := u5 _ _ eh he
  refine ⟨_, rfl, h, _, dx, _, _, rfl, hh5, cl, na_History__editions T, lk_e2, e, es, _, rfl, he5, hE5, by rw [edsTo_len]; have := ho.few; omega, ho.few6, fun b H6 n6 s6 hb6 => ?_⟩
  have u6 : Up h H2 H6 := fun b o nb q => s6 _ _ (u5 b o nb q)
  have hh6 := s6 _ _ hh5
  have hc6 := s6 _ _ hc5
  have bh : b ≠ h := fun z => by rw [z, hh5] at n6; cases n6
  refine ⟨_, rfl, h, _, dx, _, rfl, hh6, cl, na_History__births T, (by show 2 < 1000; decide), ?_⟩
  rw [show putF ("_births" : Str) (.ref b) [("_editions", .ref e), ("_changes", .ref c)] = ([("_editions", .ref e), ("_changes", .ref c), ("_births", .ref b)] : List (Str × V)) by rw [← hist_put2 e c]; exact hist_put3 e c b]
  have u7 : Up h H2 (upd H6 h (.ins (He.ga K "History") dx [("_editions", .ref e), ("_changes", .ref c), ("_births", .ref b)])) := fun b o nb q => by rw [upd_ne nb]; exact u6 b o nb q
  have hh7 : upd H6 h (.ins (He.ga K "History") dx [("_editions", .ref e), ("_changes", .ref c), ("_births", .ref b)]) h = some (.ins (He.ga K "History") dx [("_editions", .ref e), ("_changes", .ref c), ("_births", .ref b)]) := upd_same
  have hc7 : upd H6 h (.ins (He.ga K "History") dx [("_editions", .ref e), ("_changes", .ref c), ("_births", .ref b)]) c = some (.lst (ts.map V.ref)) := by rw [upd_ne ch]; exact hc6
  have hb7 : upd H6 h (.ins (He.ga K "History") dx [("_editions", .ref e), ("_changes", .ref c), ("_births", .ref b)]) b = some (.lst ((bornH (numb cs) chs).map V.int)) := by rw [upd_ne bh]; exact hb6
  generalize upd H6 h (.ins (He.ga K "History") dx [("_editions", .ref e), ("_changes", .ref c), ("_births", .ref b)]) = H7 at u7 hh7 hc7 hb7 ⊢
  have hE7 : Eds K H7 es (edsTo (numb cs) chs (chs.length + 1)) := hE.up u7 hh2 lk
  have he7 := u7 _ _ eh he
  have bl : (bornH (numb cs) chs).length ≤ 100000 := by
    have h1 := bornTo_len ho.few6 (edsTo (numb cs) chs (chs.length + 1)).length
    have h2 : (edsTo (numb cs) chs (chs.length + 1)).length ≤ 41 := by rw [edsTo_len]; have := ho.few; omega
    show (bornTo (edsTo (numb cs) chs (chs.length + 1)) _).length ≤ _
    omega
  refine ⟨_, rfl, h, _, dx, _, _, rfl, hh7, cl, na_History__editions T, lk_e3, _, rfl, h, _, dx, _, _, rfl, hh7, cl, na_History__births T, lk_b3, b, _, rfl, .inl (sqL_of hb7), e, es, _, (bornH (numb cs) chs).length, by rw [List.length_map]; rfl, he7, hE7, by rw [edsTo_len]; omega, by rw [edsTo_len]; have := ho.few; omega, bl, ho.nums, fun d H8 n8 s8 hd8 => ?_⟩
  have u8 : Up h H2 H8 := fun b o nb q => s8 _ _ (u7 b o nb q)
  have hh8 := s8 _ _ hh7
  have hc8 := s8 _ _ hc7
  have hb8 := s8 _ _ hb7
  have dh : d ≠ h := fun z => by rw [z, hh7] at n8; cases n8
  refine ⟨_, rfl, h, _, dx, _, rfl, hh8, cl, na_History__drops T, (by show 3 < 1000; decide), ?_⟩
  rw [show putF ("_drops" : Str) (.ref d) [("_editions", .ref e), ("_changes", .ref c), ("_births", .ref b)] = histFs e c b d by rw [← hist_put3 e c b]; exact hist_put4 e c b d]
  have u9 : Up h H2 (upd H8 h (.ins (He.ga K "History") dx (histFs e c b d))) := fun b o nb q => by rw [upd_ne nb]; exact u8 b o nb q
  have fb : H b = none := by
    cases hb0 : H b with
    | none => rfl
    | some o =>
      rw [u5 _ _ bh (s02 _ _ hb0)] at n6
      cases n6
  have fd0 : H d = none := by
    cases hd0 : H d with
    | none => rfl
    | some o =>
      rw [u7 _ _ dh (s02 _ _ hd0)] at n8
      cases n8
  refine k _ ⟨dx, e, c, b, d, es, ts, ⟨upd_same, u9 _ _ eh he, hE.up u9 hh2 lk, by rw [upd_ne ch]; exact hc8, (hch.keep s02).up u9 hh2, by rw [upd_ne bh]; exact hb8, by rw [upd_ne dh]; exact hd8⟩, fb, fd0⟩ fun b' o nb' q => u9 _ _ nb' (s02 _ _ q)
theorem ok_Hist_init (T : Tx K mg) : ∃ fd, FnOk P w K mg base CX0 11 (He.ma K (He.ga K "History") "__init__") fd ["self", "columns", "changes"] (sp_Hist_init K) ∧
    FunD K "__init__" "History.__init__" (defArgs s_History___init__) (defBody s_History___init__) (defScope s_History___init__) (d_History___init__.dvs K) (d_History___init__.kws K) (He.ma K (He.ga K "History") "__init__") fd := by
  obtain ⟨fd, G, F⟩ := ok_Hist_initB (P := P) (w := w) (base := base) T
  refine ⟨fd, G.imp fun vs H Q E h => ?_, F⟩
  obtain ⟨h, dx, l, t, as, ts, cs, chs, e, hh, hl, hc, ht, hch, hok, ho, k⟩ := h
  exact ⟨h, dx, l, t, as, ts, cs, chs, false, e, hh, hl, hc, sqL_of ht, hch, hok, ho, k⟩
/-! len(history) -/
theorem histNo {K : PySem.W.Frag} {H : Hp} {h : Addr} {cs : List Col} {chs : List Ch} (q : HistAt K H h cs chs) : ∃ dx fs, H h = some (.ins (He.ga K "History") dx fs) := by
  obtain ⟨dx, e, c, b, d, _, _, q, _⟩ := q
  exact ⟨dx, _, q⟩
def sp_Hist_len (K : PySem.W.Frag) : Sp := fun vs H Q _ => ∃ (h : Addr) (cs : List Col) (chs : List Ch), vs = [.ref h] ∧ HistAt K H h cs chs ∧ Q (.int (chs.length : Nat)) H
theorem ok_Hist_len (T : Tx K mg) : ∃ fd, FnOk P w K mg base CX0 1 (He.ma K (He.ga K "History") "__len__") fd ["self"] (sp_Hist_len K) ∧ Binds K fd ["self"] [] := by
  obtain ⟨fd, F⟩ := fd_History___len__ T
  refine ⟨fd, F.ok (CX := CX0) sc_History___len__ (fun vs H Q E h => ?_) (fun cdv A outer s H vs Q E hr h => ?_), F.bindsN fun _ _ _ _ _ _ us hl => match us, hl with | [_], _ => rfl⟩
  · obtain ⟨h, cs, chs, rfl, _⟩ := h
    rfl
  suffices hh : ∃ t, PSs (cxOf CX0 P w K mg base ["self"] "History.__len__" (defScope s_History___len__) (He.ma K (He.ga K "History") "__len__") cdv A outer s H E).nox (defBody s_History___len__) t ∧
      t { nx := fun _ H' => Q .non H', rt := Q } (start ["self"] vs) H by
    obtain ⟨t, h1, h2⟩ := hh
    exact ⟨t, h1.nox, h2⟩
  obtain ⟨h, cs, chs, rfl, ⟨dx, e, c, b, d, es, ts, hh, he, hE, hc, hC, hb, hd⟩, k⟩ := h
  refine ⟨_, pss_one (ps_ret (pe_callB call_len_seq (by rfl) (fr_len T) PySem.boot_len (pa_cons (pe_fld (pv 0) rfl) pa_nil))), ?_⟩
  refine ⟨_, rfl, h, _, dx, _, _, rfl, hh, cl_History T, na_History__changes T, histFs_changes, c, _, rfl, .inl (sqL_of hc), ?_⟩
  rw [List.length_map, hC.len]
  exact k
/-! is_edition -/
def isEd (n : Nat) : V → Bool
  | .int i => decide (0 ≤ i) && decide (i ≤ (n : Nat))
  | _ => false
def sp_is_edition (K : PySem.W.Frag) : Sp := fun vs H Q _ => ∃ (h : Addr) (cs : List Col) (chs : List Ch) (x : V) (t : String), vs = [.ref h, x] ∧ HistAt K H h cs chs ∧ chs.length ≤ 1000 ∧ TyX K H x (.type t) ∧ Q (.bl (isEd chs.length x)) H
theorem ok_is_edition (T : Tx K mg) : Callee P w K mg base CX0 3 "is_edition" ["history", "value"] [] (sp_is_edition K) := by
  have C1 := (ok_is_whole (P := P) (w := w) (base := base) T).up (show 1 ≤ 2 by decide)
  obtain ⟨fdL, FL, bL⟩ := ok_Hist_len (P := P) (w := w) (base := base) T
  refine mkCallee (fd_is_edition T) (mg_is_edition T) sc_is_edition (fun _ _ _ _ _ _ us hl => match us, hl with | [_, _], _ => rfl) (fun vs H Q E h => ?_) (fun cdv A outer s H vs Q E hr h => ?_)
  · obtain ⟨h, cs, chs, x, t, rfl, _⟩ := h
    rfl
  · obtain ⟨h, cs, chs, x, t, rfl, hh, few, ty, k⟩ := h
    obtain ⟨dx, fs, hi⟩ := histNo hh
    refine ⟨_, pss_one (ps_ret (pe_and (pcall C1 hr (pa_cons (pv 1) pa_nil)) (pe_one (pe_chain op_le op_le pe_int (pv 1) (pe_callB (call_lenOwn FL (me_History___len__ T) hr bL pass0) (by rfl) (fr_len T) PySem.boot_len (pa_cons (pv 0) pa_nil)))))), ?_⟩
    refine ⟨_, rfl, x, t, rfl, ty, _, rfl, ?_⟩
    cases x with
    | int i =>
      refine iteT ⟨_, rfl, _, _, rfl, rfl, _, rfl, ?_⟩
      have e : isEd chs.length (.int i) = (decide (0 ≤ i) && decide (i ≤ (chs.length : Nat))) := rfl
      rw [e] at k
      cases h1 : decide (0 ≤ i) with
      | false =>
        rw [h1] at k
        exact k
      | true =>
        rw [h1] at k
        exact ⟨_, rfl, h, dx, fs, rfl, hi, h, cs, chs, rfl, hh, _, rfl, ⟨by omega, by omega⟩, _, _, rfl, rfl, k⟩
    | _ => exact iteF k
/-! edition_of, of what is an edition, or None -/
def edOf (n : Nat) : V → Int
  | .int i => i
  | _ => n
def sp_edition_of (K : PySem.W.Frag) : Sp := fun vs H Q _ => ∃ (h : Addr) (cs : List Col) (chs : List Ch) (x : V), vs = [.ref h, x] ∧ HistAt K H h cs chs ∧ chs.length ≤ 1000 ∧ (x = .non ∨ isEd chs.length x = true) ∧ Q (.int (edOf chs.length x)) H
theorem ok_edition_of (T : Tx K mg) : Callee P w K mg base CX0 4 "edition_of" ["history", "edition"] [] (sp_edition_of K) := by
  have C1 := ok_is_edition (P := P) (w := w) (base := base) T
  obtain ⟨fdL, FL, bL⟩ := ok_Hist_len (P := P) (w := w) (base := base) T
  refine mkCallee (fd_edition_of T) (mg_edition_of T) sc_edition_of (fun _ _ _ _ _ _ us hl => match us, hl with | [_, _], _ => rfl) (fun vs H Q E h => ?_) (fun cdv A outer s H vs Q E hr h => ?_)
  · obtain ⟨h, cs, chs, x, rfl, _⟩ := h
    rfl
  · obtain ⟨h, cs, chs, x, rfl, hh, few, hx, k⟩ := h
    obtain ⟨dx, fs, hi⟩ := histNo hh
    refine ⟨_, pss_cons (ps_if (pt_cmpR op_isN (pv 1) pe_non (nomark _)) (pss_one (ps_ret (pe_callB (call_lenOwn FL (me_History___len__ T) (hr.mono (by decide)) bL pass0) (by rfl) (fr_len T) PySem.boot_len (pa_cons (pv 0) pa_nil)))) pss_nil)
      (pss_cons (ps_if (pt_not (pt_val (pcall C1 hr (pa_cons (pv 0) (pa_cons (pv 1) pa_nil))))) (pss_one ps_never) pss_nil) (pss_one (ps_ret (pv 1)))), ?_⟩
    rcases hx with rfl | hx
    · exact ⟨_, rfl, rfl, _, rfl, iteDT rfl ⟨_, rfl, h, dx, fs, rfl, hi, h, cs, chs, rfl, hh, _, rfl, ⟨by omega, by omega⟩, k⟩⟩
    · cases x with
      | int i =>
        refine ⟨_, rfl, rfl, _, rfl, iteD (fun z => by cases z) ⟨_, rfl, _, rfl, h, cs, chs, .int i, _, rfl, hh, few, .base (.int i), _, rfl, ?_⟩⟩
        rw [hx]
        exact iteF ⟨_, rfl, k⟩
      | _ => cases hx
/-! x[i] of an instance with an own __getitem__ -/
section
variable {X : Cx} {CX : CXT} {k : Nat} {f C : Addr} {fd : FuncData} {ps : List Str} {sp : Sp} {E : XK}
def rIxOwn (C : Addr) (sp : Sp) (E : XK) : R2 := fun x y H Q => ∃ (a dx : Addr) (fs : List (Str × V)), x = .ref a ∧ H a = some (.ins C dx fs) ∧ sp [x, y] H Q E
theorem pe_ixOwn {a b : Expr} {pos : Pos} {ta tb : TE} (F : FnOk X.prog X.w X.K X.mg X.base CX k f fd ps sp) (hm : Meth X.K C "__getitem__" f) (hf : PySem.W.fnIn X.K f = true) (hr : Room (k + 1) X.A) (hb : Binds X.K fd ps []) (hx : Passes CX X E) (ha : PE X a ta) (hb2 : PE X b tb)
    (hl : ∀ (x : Addr) (i : Value), subscripted b true (.ref x) i = runValue (.builtin "lifetime.subscript" ⟨[.ref x, i], []⟩)) : PE X (.Subscript a b pos) (tOp (rIxOwn C sp E) ta tb) := by
  refine ⟨fun pins s σ H Q I h => ?_⟩
  refine Subscript_ (binT ha hb2 I h fun v u s2 x y H2 I2 rx ry q => ?_)
  obtain ⟨c, dx, fs, ex, hc, q⟩ := q
  subst ex
  cases (show v = Value.ref c from rx)
  obtain ⟨mA, J, _⟩ := ins_get I2.hok hc
  obtain ⟨od, J, _⟩ := J.look
  obtain ⟨m, hF⟩ := I2.fr
  exact PySem.W.sub_K hF I2.ok.mod.kin J hm.at_ hf hm.fn (runA (us := [.ref c, u]) (vs := [.ref c, y]) F hr.in1 I2.env0.in1 hb hx I2 (.cons rfl (.cons ry .nil)) q) (hl c u)
end

/-! history[i], of an index of a change -/
theorem lref_getAt {as : List Addr} {j : Nat} {a : Addr} (h : as[j]? = some a) : atI (as.map V.ref) ((j : Nat) : Int) = some (.ref a) := by
  have hj := (List.getElem?_eq_some_iff.mp h).1
  unfold atI
  rw [ixN_ok (by omega) (by rw [List.length_map]; omega)]
  show (as.map V.ref)[j]? = _
  rw [List.getElem?_map, h]
  rfl
def sp_Hist_get (K : PySem.W.Frag) : Sp := fun vs H Q _ => ∃ (h : Addr) (cs : List Col) (chs : List Ch) (i : Nat), vs = [.ref h, .int (i : Nat)] ∧ HistAt K H h cs chs ∧ i < chs.length ∧ ∀ (t : Addr) (ch : Ch), chs[i]? = some ch → ChAt K H t ch → Q (.ref t) H
theorem ok_Hist_get (T : Tx K mg) : ∃ fd, FnOk P w K mg base CX0 2 (He.ma K (He.ga K "History") "__getitem__") fd ["self", "at"] (sp_Hist_get K) ∧ Binds K fd ["self", "at"] [] := by
  have C1 := ok_is_whole (P := P) (w := w) (base := base) T
  obtain ⟨fd, F⟩ := fd_History___getitem__ T
  refine ⟨fd, F.ok (CX := CX0) sc_History___getitem__ (fun vs H Q E h => ?_) (fun cdv A outer s H vs Q E hr h => ?_), F.bindsN fun _ _ _ _ _ _ us hl => match us, hl with | [_, _], _ => rfl⟩
  · obtain ⟨h, cs, chs, i, rfl, _⟩ := h
    rfl
  suffices hh : ∃ t, PSs (cxOf CX0 P w K mg base ["self", "at"] "History.__getitem__" (defScope s_History___getitem__) (He.ma K (He.ga K "History") "__getitem__") cdv A outer s H E).nox (defBody s_History___getitem__) t ∧
      t { nx := fun _ H' => Q .non H', rt := Q } (start ["self", "at"] vs) H by
    obtain ⟨t, h1, h2⟩ := hh
    exact ⟨t, h1.nox, h2⟩
  obtain ⟨h, cs, chs, i, rfl, ⟨dx, e, c, b, d, es, ts, hh, he, hE, hc, hC, hb, hd⟩, hi, k⟩ := h
  have cl := cl_History T
  refine ⟨_, pss_cons (ps_if (PW.pt (pw_or (pt_not (pt_val (pcall C1 hr (pa_cons (pv 1) pa_nil)))) (pw_or1 (pt_not (pt_chain op_le op_lt pe_int (pv 1) (pe_callB call_len (by rfl) (fr_len T) PySem.boot_len (pa_cons (pe_fld (pv 0) rfl) pa_nil))))))) (pss_one ps_never) pss_nil)
    (pss_one (ps_ret (pe_ix ix_list (pe_fld (pv 0) rfl) (pv 1) (fun _ _ => rfl)))), ?_⟩
  have hti : i < ts.length := by rw [hC.len]; exact hi
  obtain ⟨ch, hch, hat⟩ := hC.at_ (List.getElem?_eq_getElem hti)
  refine ⟨_, rfl, .int (i : Nat), _, rfl, .base (.int _), _, rfl, iteF ?_⟩
  refine ⟨_, rfl, _, _, rfl, rfl, _, rfl, ?_⟩
  rw [decide_eq_true (show (0 : Int) ≤ ((i : Nat) : Int) by omega)]
  refine iteT ⟨_, rfl, h, _, dx, _, _, rfl, hh, cl, na_History__changes T, histFs_changes, _, chs.length, rfl, .inl ⟨_, sqL_of hc, by rw [List.length_map, hC.len]⟩, _, _, rfl, rfl, _, rfl, ?_⟩
  rw [decide_eq_true (show ((i : Nat) : Int) < ((chs.length : Nat) : Int) by omega)]
  refine iteF (nxt ⟨_, rfl, h, _, dx, _, _, rfl, hh, cl, na_History__changes T, histFs_changes, _, rfl, c, _, ((i : Nat) : Int), _, rfl, rfl, sqL_of hc, lref_getAt (List.getElem?_eq_getElem hti), k _ ch hch hat⟩)
/-! history.columns(edition) -/
theorem isEd_ix {n : Nat} {x : V} (h : x = .non ∨ isEd n x = true) : 0 ≤ edOf n x ∧ edOf n x ≤ (n : Nat) := by
  rcases h with rfl | h
  · exact ⟨by show (0 : Int) ≤ (n : Nat); omega, Int.le_refl _⟩
  · cases x with
    | int i =>
      have h : (decide (0 ≤ i) && decide (i ≤ (n : Nat))) = true := h
      rw [Bool.and_eq_true] at h
      exact ⟨of_decide_eq_true h.1, of_decide_eq_true h.2⟩
    | _ => cases h
def colsAt (cs : List Col) (chs : List Ch) (x : V) : List Col := (atC cs (chs.take (edOf chs.length x).toNat)).1
def sp_Hist_columns (K : PySem.W.Frag) : Sp := fun vs H Q _ => ∃ (h : Addr) (cs : List Col) (chs : List Ch) (x : V), vs = [.ref h, x] ∧ HistAt K H h cs chs ∧ chs.length ≤ 1000 ∧ (x = .non ∨ isEd chs.length x = true) ∧
  ∀ (l : Addr) (as : List Addr) (H' : Hp), H l = none → Same H H' → H' l = some (.lst (as.map V.ref)) → Cols K H' as (colsAt cs chs x) → Q (.ref l) H'
theorem ok_Hist_columns (T : Tx K mg) : ∃ fd, FnOk P w K mg base CX0 5 (He.ma K (He.ga K "History") "columns") fd ["self", "edition"] (sp_Hist_columns K) ∧ Binds K fd ["self", "edition"] [] ∧ ∃ ds, Vals [V.non] ds ∧ Binds K fd ["self", "edition"] ds := by
  have C1 := ok_edition_of (P := P) (w := w) (base := base) T
  obtain ⟨fd, F⟩ := fd_History_columns T
  refine ⟨fd, F.ok (CX := CX0) sc_History_columns (fun vs H Q E h => ?_) (fun cdv A outer s H vs Q E hr h => ?_), ?_, ?_⟩
  · obtain ⟨h, cs, chs, x, rfl, _⟩ := h
    rfl
  · suffices hh : ∃ t, PSs (cxOf CX0 P w K mg base ["self", "edition"] "History.columns" (defScope s_History_columns) (He.ma K (He.ga K "History") "columns") cdv A outer s H E).nox (defBody s_History_columns) t ∧
        t { nx := fun _ H' => Q .non H', rt := Q } (start ["self", "edition"] vs) H by
      obtain ⟨t, h1, h2⟩ := hh
      exact ⟨t, h1.nox, h2⟩
    obtain ⟨h, cs, chs, x, rfl, hq, few, hx, k⟩ := h
    obtain ⟨dx, e, c, b, d, es, ts, hh, he, hE, hc, hC, hb, hd⟩ := id hq
    have bd := isEd_ix hx
    have hlen : es.length = chs.length + 1 := by rw [hE.len, edsTo_len]
    have hi : (edOf chs.length x).toNat < es.length := by omega
    obtain ⟨cs1, as1, hcs1, hea, hc1⟩ := hE.at_ (List.getElem?_eq_getElem hi)
    rw [edsTo_get (by omega)] at hcs1
    obtain rfl := Option.some.inj hcs1
    refine ⟨_, pss_one (ps_ret (pe_callTy call_list_of (by rfl) (fr_list T) (by decide +kernel) (pa_cons (pe_ix ix_list (pe_fld (pv 0) rfl) (pcall C1 hr (pa_cons (pv 0) (pa_cons (pv 1) pa_nil))) (fun _ _ => rfl)) pa_nil))), ?_⟩
    refine ⟨_, rfl, h, _, dx, _, _, rfl, hh, cl_History T, na_History__editions T, histFs_editions, _, rfl, _, rfl, h, cs, chs, x, rfl, hq, few, hx, e, es.map V.ref, edOf chs.length x, .ref es[(edOf chs.length x).toNat], rfl, rfl, sqL_of he, ?_, _, _, rfl, .inl (sqL_of hea), fun l nl => ?_⟩
    · unfold atI
      rw [ixN_ok bd.1 (by rw [List.length_map]; omega)]
      show (es.map V.ref)[(edOf chs.length x).toNat]? = _
      rw [List.getElem?_map, List.getElem?_eq_getElem hi]
      rfl
    · exact k l as1 _ nl (same_new nl) upd_same (hc1.keep (same_new nl))
  · have h := F.binds1 (ps := ["self", "edition"]) 2 1 (by intro z; cases z) rfl (fun TT kV doc pm an cdv ct us its h1 h2 => ?_)
    · obtain ⟨ds, v, b⟩ := h
      cases ds with
      | nil => exact b
      | cons _ _ => cases v
    · match us, h1, its, h2 with
      | [u0, u1], _, [i0], _ => exact ⟨_, rfl, rfl⟩
  · exact F.binds1 (ps := ["self", "edition"]) 1 0 (by intro z; cases z) rfl (fun TT kV doc pm an cdv ct us its h1 h2 => by
      match us, h1, its, h2 with
      | [u0], _, [i0], _ => exact ⟨_, rfl, rfl⟩)
/-! History.column, of a name that is there -/
def sp_Hist_column (K : PySem.W.Frag) : Sp := fun vs H Q _ => ∃ (h : Addr) (cs : List Col) (chs : List Ch) (x : V) (c : Col), vs = [.ref h, .str c.name, x] ∧ HistAt K H h cs chs ∧ chs.length ≤ 1000 ∧ (x = .non ∨ isEd chs.length x = true) ∧ c ∈ colsAt cs chs x ∧ ((colsAt cs chs x).map (·.name)).Nodup ∧
  ∀ a, ColA K H a c → Q (.ref a) H
theorem ok_Hist_column (T : Tx K mg) : ∃ fd, FnOk P w K mg base CX0 5 (He.ma K (He.ga K "History") "column") fd ["self", "name", "edition"] (sp_Hist_column K) ∧ (∃ g, KBn K fd ["self", "name", "edition"] 2 ["edition"] g (fun vs zs => vs ++ zs)) ∧ ∃ ds, Vals [V.non] ds ∧ Binds K fd ["self", "name", "edition"] ds := by
  have C1 := ok_edition_of (P := P) (w := w) (base := base) T
  have C2 := (ok_column_named (P := P) (w := w) (base := base) T).up (show 1 ≤ 4 by decide)
  obtain ⟨fd, F⟩ := fd_History_column T
  refine ⟨fd, F.ok (CX := CX0) sc_History_column (fun vs H Q E h => ?_) (fun cdv A outer s H vs Q E hr h => ?_), ?_, ?_⟩
  · obtain ⟨h, cs, chs, x, c, rfl, _⟩ := h
    rfl
  · suffices hh : ∃ t, PSs (cxOf CX0 P w K mg base ["self", "name", "edition", "found"] "History.column" (defScope s_History_column) (He.ma K (He.ga K "History") "column") cdv A outer s H E).nox (defBody s_History_column) t ∧
        t { nx := fun _ H' => Q .non H', rt := Q } (start ["self", "name", "edition", "found"] vs) H by
      obtain ⟨t, h1, h2⟩ := hh
      exact ⟨t, h1.nox, h2⟩
    obtain ⟨h, cs, chs, x, c0, rfl, hq, few, hx, hcm, hnd, k⟩ := h
    have nd := sc_History_column.nd
    obtain ⟨dx, e, c, b, d, es, ts, hh, he, hE, hc, hC, hb, hd⟩ := id hq
    have bd := isEd_ix hx
    have hlen : es.length = chs.length + 1 := by rw [hE.len, edsTo_len]
    have hi : (edOf chs.length x).toNat < es.length := by omega
    obtain ⟨cs1, as1, hcs1, hea, hc1⟩ := hE.at_ (List.getElem?_eq_getElem hi)
    rw [edsTo_get (by omega)] at hcs1
    obtain rfl := Option.some.inj hcs1
    refine ⟨_, (pss_cons (ps_set (i := 3) nd rfl (Or.inl rfl) (pcall C2 hr (pa_cons (pe_ix ix_list (pe_fld (pv 0) rfl) (pcall C1 hr (pa_cons (pv 0) (pa_cons (pv 2) pa_nil))) (fun _ _ => rfl)) (pa_cons (pv 1) pa_nil))))
        (pss_cons (ps_if (pt_cmpR op_isN (pv 3) pe_non (nomark _)) (pss_one ps_never) pss_nil)
        (pss_one (ps_ret (pv 3))))), ?_⟩
    have ha0 : atI (es.map V.ref) (edOf chs.length x) = some (.ref es[(edOf chs.length x).toNat]) := by
      unfold atI
      rw [ixN_ok bd.1 (by rw [List.length_map]; omega)]
      show (es.map V.ref)[(edOf chs.length x).toNat]? = _
      rw [List.getElem?_map, List.getElem?_eq_getElem hi]
      rfl
    have hfu := find_uniq (cs := colsAt cs chs x) hnd hcm rfl
    refine q_asgX ⟨_, rfl, h, _, dx, _, _, rfl, hh, cl_History T, na_History__editions T, histFs_editions, _, rfl, _, rfl, h, cs, chs, x, rfl, hq, few, hx, e, es.map V.ref, edOf chs.length x, .ref es[(edOf chs.length x).toNat], rfl, rfl, sqL_of he, ha0, _, rfl, _, as1, colsAt cs chs x, c0.name, rfl, .inl (sqL_of hea), hc1, fun v hv => ?_⟩
    rcases hv with ⟨_, hno⟩ | ⟨j, a, c', rfl, ha, hcj, hfi⟩
    · rw [hfu] at hno
      cases hno
    obtain rfl : c0 = c' := Option.some.inj (hfu.symm.trans hfi)
    obtain ⟨c', q1, q2⟩ := hc1.at_ ha
    obtain rfl : c0 = c' := Option.some.inj (hcj.symm.trans q1)
    refine ⟨_, rfl, rfl, _, rfl, iteD (fun z => by cases z) (nxt ⟨_, rfl, k a q2⟩)⟩
  · have h := F.kbinds0 (ps := ["self", "name", "edition"]) 2 ["edition"] [] (fun us mv ws => us ++ ws) (by intro z; cases z) (by intro q hq; cases hq) (fun r1 _ r4 => r1.append r4) (fun D doc pm an cdv ct us mv ws h1 h2 h3 => ?_)
    · obtain ⟨mv, h⟩ := h
      exact ⟨_, h⟩
    · match us, h1, mv, h2, ws, h3 with
      | [u0, u1], _, [], _, [w0], _ => exact rfl
  · exact F.binds0 (ps := ["self", "name", "edition"]) 2 (by intro z; cases z) rfl (fun D doc pm an cdv ct us ks h1 h2 => by
      match us, h1, ks, h2 with
      | [u0, u1], _, [i0], _ => exact ⟨_, _, _, _, _, _, rfl, rfl, rfl⟩)
/-! heaps: all but one place; lists and dicts apart -/
/-- all but what stands at p is as it was -/
def But (p : Addr) (H H' : Hp) : Prop := ∀ b o, b ≠ p → H b = some o → H' b = some o
theorem But.refl (p : Addr) (H : Hp) : But p H H := fun _ _ _ e => e
theorem But.trans {p : Addr} {H H1 H2 : Hp} (a : But p H H1) (b : But p H1 H2) : But p H H2 := fun c o h e => b c o h (a c o h e)
theorem But.of {p : Addr} {H H' : Hp} (s : Same H H') : But p H H' := fun b o _ e => s b o e
theorem But.mut {p : Addr} {H : Hp} {o : HO} : But p H (upd H p o) := fun b u h e => by
  rw [upd_ne h]
  exact e
/-- nothing that stood ahead of p is touched -/
theorem But.same {p : Addr} {H0 H H' : Hp} (b : But p H H') (s : Same H0 H) (n : H0 p = none) : Same H0 H' := fun c o e => b c o (ne_of_none e n) (s c o e)
theorem npool0 {H : Hp} {p l : Addr} {o : HO} (h : H p = some o) (n : H l = none) : l ≠ p := fun e => by
  rw [e, h] at n
  cases n
theorem KeepNL.ofBut {H H' : Hp} {p : Addr} {zs : List V} (h : H p = some (.lst zs)) (b : But p H H') : KeepNL H H' := fun c o n e => b c o (fun q => by rw [q, h] at e; exact n zs (Option.some.inj e).symm) e
/-- all that is neither a list nor a dict is as it was -/
def KeepT (H H' : Hp) : Prop := ∀ b o, (∀ zs, o ≠ HO.lst zs) → (∀ kvs, o ≠ HO.dK kvs) → H b = some o → H' b = some o
theorem KeepT.of {H H' : Hp} (s : Same H H') : KeepT H H' := fun b o _ _ e => s b o e
theorem KeepT.trans {H H1 H2 : Hp} (a : KeepT H H1) (b : KeepT H1 H2) : KeepT H H2 := fun c o n m e => b c o n m (a c o n m e)
theorem KeepT.lst {H : Hp} {D : Addr} {zs : List V} {o : HO} (h : H D = some (.lst zs)) : KeepT H (upd H D o) := fun b o' n _ e => by
  rw [upd_ne (fun q => by rw [q, h] at e; exact n zs (Option.some.inj e).symm)]
  exact e
theorem KeepT.dct {H : Hp} {D : Addr} {kvs : List (Key × V)} {o : HO} (h : H D = some (.dK kvs)) : KeepT H (upd H D o) := fun b o' _ n e => by
  rw [upd_ne (fun q => by rw [q, h] at e; exact n kvs (Option.some.inj e).symm)]
  exact e
theorem KeepT.but {H H' : Hp} {p : Addr} {zs : List V} (h : H p = some (.lst zs)) (b : But p H H') : KeepT H H' := fun c o n _ e => b c o (fun q => by rw [q, h] at e; exact n zs (Option.some.inj e).symm) e
theorem sqT_keepT {K : PySem.W.Frag} {H H' : Hp} {a : Addr} {xs : List V} (s : KeepT H H') (h : SqT K H a xs) : SqT K H' a xs := by
  rcases h with (h | ⟨o, h⟩) | h
  · exact .inl (.inl (s _ _ (fun _ z => by cases z) (fun _ z => by cases z) h))
  · exact .inl (.inr ⟨o, s _ _ (fun _ z => by cases z) (fun _ z => by cases z) h⟩)
  · exact .inr h
theorem sqT_keepNL {K : PySem.W.Frag} {H H' : Hp} {a : Addr} {xs : List V} (s : KeepNL H H') (h : SqT K H a xs) : SqT K H' a xs := by
  rcases h with (h | ⟨o, h⟩) | h
  · exact .inl (.inl (s _ _ (fun _ z => by cases z) h))
  · exact .inl (.inr ⟨o, s _ _ (fun _ z => by cases z) h⟩)
  · exact .inr h
theorem pl_e1 {σ : L2.St} {H : Hp} {X : TE} {r : List V → Hp → VK → Prop} {Q : VK} (h : X σ H fun v H1 => r [v] H1 Q) : tCB r (tCons X tNil) σ H Q := h
theorem pl_op {σ : L2.St} {H : Hp} {ta tb : TE} {r : V → V → Hp → VK → Prop} {Q : VK} (h : ta σ H fun x H1 => tb σ H1 fun y H2 => r x y H2 Q) : tOp r ta tb σ H Q := h
theorem at_zero {xs : List V} {v : V} (h : xs[0]? = some v) : atI xs 0 = some v := by
  have hj := (List.getElem?_eq_some_iff.mp h).1
  unfold atI
  rw [ixN_ok (by omega) (by omega)]
  exact h
theorem refs_no {as : List Addr} {a b : Int} : ¬ as.map V.ref = [.int a, .int b] := fun e => by
  cases as with
  | nil => cases e
  | cons x xs => cases (List.cons.inj e).1
theorem lref_at {as : List Addr} {j : Nat} {a : Addr} (h : as[j]? = some a) : atI (as.map V.ref) ((j : Nat) : Int) = some (.ref a) := by
  have hj := (List.getElem?_eq_some_iff.mp h).1
  unfold atI
  rw [ixN_ok (by omega) (by rw [List.length_map]; omega)]
  show (as.map V.ref)[j]? = _
  rw [List.getElem?_map, h]
  rfl

/-! Histories that stay, histories that go on -/
theorem numb_placed {cs : List Col} (p : Placed cs) : numb cs = cs := by
  unfold numb
  refine List.ext_getElem? fun i => ?_
  rw [List.getElem?_mapIdx]
  cases e : cs[i]? with
  | none => rfl
  | some c =>
    have := p i c e
    cases c
    simp only at this
    subst this
    rfl
theorem Cols.keepNL {K : PySem.W.Frag} {H H' : Hp} (s : KeepNL H H') : ∀ {as : List Addr} {cs : List Col}, Cols K H as cs → Cols K H' as cs
  | _, _, .nil => .nil
  | _, _, .cons h t => .cons (by
      obtain ⟨dx, q⟩ := h
      exact ⟨dx, s _ _ (fun _ z => by cases z) q⟩) (t.keepNL s)
theorem Chs.keepNL {K : PySem.W.Frag} {H H' : Hp} (s : KeepNL H H') : ∀ {as : List Addr} {cs : List Ch}, Chs K H as cs → Chs K H' as cs
  | _, _, .nil => .nil
  | _, _, .cons h t => .cons (by
      rcases h with (q | ⟨o, q⟩) | q
      · exact .inl (.inl (s _ _ (fun _ z => by cases z) q))
      · exact .inl (.inr ⟨o, s _ _ (fun _ z => by cases z) q⟩)
      · exact .inr q) (t.keepNL s)
theorem Eds.keepP {K : PySem.W.Frag} {H H' : Hp} {p : Addr} {y0 y1 : Int} (hp : H p = some (.lst [.int y0, .int y1])) (bt : But p H H') : ∀ {es : List Addr} {eds : List (List Col)}, Eds K H es eds → Eds K H' es eds
  | _, _, .nil => .nil
  | _, _, .cons as h c t => .cons as (bt _ _ (fun e => by rw [e, hp] at h; exact refs_no (HO.lst.inj (Option.some.inj h)).symm) h) (c.keepNL (KeepNL.ofBut hp bt)) (t.keepP hp bt)
/-- draws leave a History alone that was made behind the pool -/
theorem HistN.but {K : PySem.W.Frag} {H0 H H' : Hp} {h p : Addr} {cs : List Col} {chs : List Ch} {o : HO} {y0 y1 : Int} (q : HistN K H0 H h cs chs) (h0 : H0 p = some o) (hp : H p = some (.lst [.int y0, .int y1])) (bt : But p H H') : HistN K H0 H' h cs chs := by
  obtain ⟨dx, e, c, b, d, es, ts, ⟨q1, q2, q3, q4, q5, q6, q7⟩, qb, qd⟩ := q
  have kn := KeepNL.ofBut hp bt
  refine ⟨dx, e, c, b, d, es, ts, ⟨kn _ _ (fun _ z => by cases z) q1, bt _ _ (fun z => ?_) q2, q3.keepP hp bt, bt _ _ (fun z => ?_) q4, q5.keepNL kn, bt _ _ (fun z => ?_) q6, bt _ _ (fun z => ?_) q7⟩, qb, qd⟩
  · rw [z, hp] at q2
    exact refs_no (HO.lst.inj (Option.some.inj q2)).symm
  · rw [z, hp] at q4
    exact refs_no (HO.lst.inj (Option.some.inj q4)).symm
  · rw [z, h0] at qb
    cases qb
  · rw [z, h0] at qd
    cases qd
theorem Chs.keepT {K : PySem.W.Frag} {H H' : Hp} (s : KeepT H H') : ∀ {as : List Addr} {cs : List Ch}, Chs K H as cs → Chs K H' as cs
  | _, _, .nil => .nil
  | _, _, .cons h t => .cons (sqT_keepT s h) (t.keepT s)
theorem Chs.app {K : PySem.W.Frag} {H : Hp} : ∀ {as bs : List Addr} {cs ds : List Ch}, Chs K H as cs → Chs K H bs ds → Chs K H (as ++ bs) (cs ++ ds)
  | _, _, _, _, .nil, h => h
  | _, _, _, _, .cons h t, q => .cons h (t.app q)
theorem edsTo_app {cs : List Col} {chs : List Ch} {ch : Ch} : edsTo cs (chs ++ [ch]) ((chs ++ [ch]).length + 1) = edsTo cs chs (chs.length + 1) ++ [behind (atC cs chs).1 ch (atC cs chs).2] := by
  have e : (chs ++ [ch]).length = chs.length + 1 := by rw [List.length_append]; rfl
  rw [e, edsTo_succ]
  refine congr (congrArg _ ?_) ?_
  · unfold edsTo
    refine List.map_congr_left fun i hi => ?_
    rw [List.mem_range] at hi
    rw [List.take_append_of_le_length (by omega)]
  · rw [List.take_of_length_le (by omega)]
    show [(List.foldl stepC (cs, (cs.length : Int)) (chs ++ [ch])).1] = _
    rw [List.foldl_append]
    rfl
theorem atC_app {cs : List Col} {chs : List Ch} {ch : Ch} : (atC cs (chs ++ [ch])).2 = numThen ch (atC cs chs).2 := by
  show (List.foldl stepC (cs, (cs.length : Int)) (chs ++ [ch])).2 = _
  rw [List.foldl_append]
  rfl
theorem Fits.app {cs : List Col} {chs : List Ch} {ch : Ch} (f : Fits cs chs) (h1 : ch.fits = true) (h2 : hindV (atC cs chs).1 ch = .non) : Fits cs (chs ++ [ch]) := by
  intro i c hc
  by_cases hi : i < chs.length
  · rw [List.getElem?_append_left hi] at hc
    rw [List.take_append_of_le_length (by omega)]
    exact f i c hc
  · have e : i = chs.length := by
      have := (List.getElem?_eq_some_iff.mp hc).1
      rw [List.length_append] at this
      have q : [ch].length = 1 := rfl
      omega
    subst e
    rw [List.getElem?_append_right (Nat.le_refl _), Nat.sub_self] at hc
    obtain rfl := Option.some.inj hc
    rw [List.take_append_of_le_length (Nat.le_refl _), List.take_length]
    exact ⟨h1, h2⟩
def Asc (cs : List Col) : Prop := (cs.map (·.num)).Pairwise (· < ·)
theorem sorted_eq : ∀ {xs ys : List Int}, ys.Perm xs → ys.Pairwise (· ≤ ·) → xs.Pairwise (· < ·) → ys = xs
  | [], ys, p, _, _ => p.eq_nil
  | x :: xs, [], p, _, _ => by have := p.length_eq; simp at this
  | x :: xs, y :: ys, p, s, a => by
    rw [List.pairwise_cons] at s a
    have h1 : y ∈ x :: xs := p.mem_iff.mp List.mem_cons_self
    have h2 : x ∈ y :: ys := p.mem_iff.mpr List.mem_cons_self
    have l1 : y ≤ x := by
      rcases List.mem_cons.mp h2 with e | h
      · omega
      · exact s.1 x h
    have l2 : x ≤ y := by
      rcases List.mem_cons.mp h1 with e | h
      · omega
      · have := a.1 y h
        omega
    obtain rfl : y = x := by omega
    rw [sorted_eq p.cons_inv s.2 a.2]
theorem asc_first {cs : List Col} (p : Placed cs) : Asc cs := by
  unfold Asc
  rw [List.pairwise_map, List.pairwise_iff_getElem]
  intro i j hi hj hij
  have h1 := p i cs[i] (List.getElem?_eq_getElem hi)
  have h2 := p j cs[j] (List.getElem?_eq_getElem hj)
  omega
theorem asc_map {cs : List Col} {f : Col → Col} (a : Asc cs) (h : ∀ c ∈ cs, (f c).num = c.num) : Asc (cs.map f) := by
  have e : (cs.map f).map (·.num) = cs.map (·.num) := by
    rw [List.map_map]
    exact List.map_congr_left h
  unfold Asc
  rw [e]
  exact a
theorem asc_step {cs : List Col} {n : Int} {ch : Ch} (g : Good cs n) (a : Asc cs) : Asc (behind cs ch n) := by
  have hc : ∀ c : Col, (chgC c ch).num = c.num := fun c => by cases ch <;> rfl
  have hm : ∀ c ∈ cs, (if c.name = ch.name then chgC c ch else c).num = c.num := fun c _ => by
    split
    · exact hc c
    · rfl
  cases ch with
  | add nm gr d =>
    have a' : (cs.map (·.num)).Pairwise (· < ·) := a
    show ((cs ++ [(⟨nm, gr, d, n⟩ : Col)]).map (·.num)).Pairwise (· < ·)
    rw [List.map_append, List.pairwise_append]
    refine ⟨a', by simp, fun x hx y hy => ?_⟩
    obtain ⟨c, hc1, rfl⟩ := List.mem_map.mp hx
    rw [List.map_cons, List.map_nil, List.mem_singleton] at hy
    rw [hy]
    exact (g.ok c hc1).2
  | drop nm =>
    have a' : (cs.map (·.num)).Pairwise (· < ·) := a
    exact a'.sublist (List.filter_sublist.map _)
  | rename _ _ => exact asc_map a hm
  | dflt _ _ => exact asc_map a hm
  | great _ _ _ => exact asc_map a hm
  | fill _ _ => exact asc_map a hm
theorem asc_at {cs : List Col} {chs : List Ch} (o : HistOk cs chs) : ∀ i, i ≤ chs.length → Asc (atC cs (chs.take i)).1
  | 0, _ => asc_first o.pl
  | i + 1, h => by
    have e : chs[i]? = some chs[i] := List.getElem?_eq_getElem (by omega)
    rw [atC_snoc e]
    exact asc_step (o.f.good o.g i (by omega)) (asc_at o i (by omega))
theorem atC_le {cs : List Col} {chs : List Ch} : ∀ i, i ≤ chs.length → (atC cs (chs.take i)).2 ≤ (cs.length : Int) + i
  | 0, _ => by show (cs.length : Int) ≤ _; omega
  | i + 1, h => by
    have e : chs[i]? = some chs[i] := List.getElem?_eq_getElem (by omega)
    have ih := atC_le (cs := cs) (chs := chs) i (by omega)
    rw [atC_snoc e]
    show numThen chs[i] (atC cs (chs.take i)).2 ≤ _
    by_cases k : chs[i].kind = "add"
    · rw [kind_add k]
      omega
    · rw [kind_noadd k]
      omega

/-! numbers that ascend are unlike -/
theorem asc_lt {cm : List Col} (a : Asc cm) {i j : Nat} {c d : Col} (hi : cm[i]? = some c) (hj : cm[j]? = some d) (h : i < j) : c.num < d.num := by
  unfold Asc at a
  rw [List.pairwise_iff_getElem] at a
  obtain ⟨li, e1⟩ := List.getElem?_eq_some_iff.mp hi
  obtain ⟨lj, e2⟩ := List.getElem?_eq_some_iff.mp hj
  have := a i j (by rw [List.length_map]; exact li) (by rw [List.length_map]; exact lj) h
  rw [List.getElem_map, List.getElem_map, e1, e2] at this
  exact this
theorem asc_uniq {cm : List Col} (a : Asc cm) {i j : Nat} {c d : Col} (hi : cm[i]? = some c) (hj : cm[j]? = some d) (h : c.num = d.num) : i = j := by
  rcases Nat.lt_trichotomy i j with q | q | q
  · have := asc_lt a hi hj q
    omega
  · exact q
  · have := asc_lt a hj hi q
    omega

/-! the word that stands for no value -/
def isMis : V → Bool
  | .str z => decide (z = "missing")
  | _ => false

/-! rows of the columns -/
theorem any_no {κ : Type} [DecidableEq κ] {acc : List (κ × V)} {k : κ} (h : k ∉ acc.map (·.1)) : (acc.any fun kv => decide (kv.1 = k)) = false := by
  rw [Bool.eq_false_iff]
  intro q
  rw [List.any_eq_true] at q
  obtain ⟨kv, hm, e⟩ := q
  exact h (List.mem_map.mpr ⟨kv, hm, of_decide_eq_true e⟩)
theorem merge_new : ∀ (kvs acc : List (Key × V)), ((acc ++ kvs).map (·.1)).Nodup → mergeK acc kvs = acc ++ kvs
  | [], acc, _ => by rw [List.append_nil]; rfl
  | kv :: kvs, acc, nd => by
    have h1 : kv.1 ∉ acc.map (·.1) := fun hm => by
      rw [List.map_append, List.nodup_append] at nd
      exact nd.2.2 _ hm _ (List.mem_map.mpr ⟨kv, List.mem_cons_self, rfl⟩) rfl
    have e : putK acc kv.1 kv.2 = acc ++ [kv] := by
      unfold putK
      rw [any_no h1, if_neg (by decide)]
    show mergeK (putK acc kv.1 kv.2) kvs = _
    rw [e, merge_new kvs (acc ++ [kv]) (by rw [List.append_assoc]; exact nd), List.append_assoc]
    rfl
theorem paired_of {R : Addr → Key × V → Prop} : ∀ {ts : List Addr} {kvs : List (Key × V)}, ts.length = kvs.length → (∀ (j : Nat) t kv, ts[j]? = some t → kvs[j]? = some kv → R t kv) → Paired R ts kvs
  | [], [], _, _ => .nil
  | [], _ :: _, h, _ => by cases h
  | _ :: _, [], h, _ => by cases h
  | t :: ts, kv :: kvs, h, f => .cons (f 0 t kv rfl rfl) (paired_of (Nat.succ.inj h) fun j t' kv' h1 h2 => f (j + 1) t' kv' (by simpa using h1) (by simpa using h2))
/-- a law's row of the columns cs -/
def RowD (cs : List Col) (kvs : List (Key × V)) : Prop := kvs.length = cs.length ∧ ∀ (j : Nat) (c : Col), cs[j]? = some c → ∃ v, kvs[j]? = some (Sum.inr c.name, v) ∧ isIn c.top v = true
theorem RowD.keys {cs : List Col} {kvs : List (Key × V)} (r : RowD cs kvs) : kvs.map (·.1) = (cs.map (·.name)).map Sum.inr := by
  refine List.ext_getElem? fun j => ?_
  rw [List.getElem?_map, List.getElem?_map, List.getElem?_map]
  cases e : cs[j]? with
  | none =>
    have : kvs[j]? = none := List.getElem?_eq_none (by have := List.getElem?_eq_none_iff.mp e; rw [r.1]; exact this)
    rw [this]
    rfl
  | some c =>
    obtain ⟨v, h1, _⟩ := r.2 j c e
    rw [h1]
    rfl
theorem nodup_inr {ns : List Str} (h : ns.Nodup) : (ns.map (Sum.inr : Str → Key)).Nodup := by
  unfold List.Nodup at *
  rw [List.pairwise_map]
  exact h.imp fun e q => e (Sum.inr.inj q)
theorem valV_at {k : Key} {v : V} : ∀ {kvs : List (Key × V)} {j : Nat}, (kvs.map (·.1)).Nodup → kvs[j]? = some (k, v) → valV kvs k = some v
  | [], _, _, h => by simp at h
  | kv :: kvs, 0, _, h => by
    obtain rfl : kv = (k, v) := by simpa using h
    exact valV_pos rfl
  | kv :: kvs, j + 1, nd, h => by
    rw [List.map_cons, List.nodup_cons] at nd
    have h' : kvs[j]? = some (k, v) := by simpa using h
    rw [valV_neg (fun e => nd.1 (List.mem_map.mpr ⟨(k, v), List.mem_of_getElem? h', e.symm⟩))]
    exact valV_at nd.2 h'

/-! the row behind a change, as data -/
/-! changed_row, of a row of the columns and a change that can be done to them -/
/-- what a column gives to the row behind -/
def stepR (ch : Ch) (c : Col) (v : V) (acc : List (Key × V)) : List (Key × V) := match ch with
  | .drop n => if c.name = n then acc else putK acc (Sum.inr c.name) v
  | .rename n m => if c.name = n then putK acc (Sum.inr m) v else putK acc (Sum.inr c.name) v
  | _ => putK acc (Sum.inr c.name) v
/-- the row behind, column by column; none where a value is barred -/
def rowGo (ch : Ch) : List Col → List V → List (Key × V) → Option (List (Key × V))
  | c :: cs, v :: vs, acc => if isMis (chgV c.name ch v) = true then none else rowGo ch cs vs (stepR ch c (chgV c.name ch v) acc)
  | _, _, acc => some acc
def endR (ch : Ch) (acc : List (Key × V)) : List (Key × V) := match ch with
  | .add n _ d => putK acc (Sum.inr n) d
  | _ => acc
def rowThen (cs : List Col) (ch : Ch) (kvs : List (Key × V)) : Option (List (Key × V)) := (rowGo ch cs (kvs.map (·.2)) []).map (endR ch)
/-! the row behind is a row of the columns behind -/
inductive RowP : List Col → List (Key × V) → Prop
  | nil : RowP [] []
  | cons {c : Col} {cs : List Col} {v : V} {kvs : List (Key × V)} : isIn c.top v = true → RowP cs kvs → RowP (c :: cs) ((Sum.inr c.name, v) :: kvs)
theorem RowP.of : ∀ {cs : List Col} {kvs : List (Key × V)}, RowD cs kvs → RowP cs kvs
  | [], [], _ => .nil
  | [], _ :: _, r => by cases r.1
  | _ :: _, [], r => by cases r.1
  | c :: cs, kv :: kvs, r => by
    obtain ⟨v, h1, h2⟩ := r.2 0 c rfl
    obtain rfl : kv = (Sum.inr c.name, v) := Option.some.inj h1
    exact .cons h2 (RowP.of ⟨Nat.succ.inj r.1, fun j c' hc => by
      obtain ⟨v', h3, h4⟩ := r.2 (j + 1) c' (by simpa using hc)
      exact ⟨v', by simpa using h3, h4⟩⟩)
theorem RowP.row : ∀ {cs : List Col} {kvs : List (Key × V)}, RowP cs kvs → RowD cs kvs
  | _, _, .nil => ⟨rfl, fun j c h => by simp at h⟩
  | _, _, .cons (v := v) h t => by
    have ih := t.row
    refine ⟨congrArg Nat.succ ih.1, fun j c' hc => ?_⟩
    cases j with
    | zero =>
      obtain rfl := Option.some.inj hc
      exact ⟨v, rfl, h⟩
    | succ j =>
      obtain ⟨v', h1, h2⟩ := ih.2 j c' (by simpa using hc)
      exact ⟨v', by simpa using h1, h2⟩
theorem RowP.app : ∀ {cs ds : List Col} {kvs lvs : List (Key × V)}, RowP cs kvs → RowP ds lvs → RowP (cs ++ ds) (kvs ++ lvs)
  | _, _, _, _, .nil, h => h
  | _, _, _, _, .cons h t, q => .cons h (t.app q)
/-- what becomes of one column -/
def colR (ch : Ch) (c : Col) : List Col := match ch with
  | .add _ _ _ => [c]
  | .drop n => if c.name = n then [] else [c]
  | ch => [if c.name = ch.name then chgC c ch else c]
def newR (ch : Ch) (num : Int) : List Col := match ch with
  | .add n g d => [⟨n, g, d, num⟩]
  | _ => []
theorem flat_one {f : Col → Col} : ∀ cs : List Col, cs.flatMap (fun c => [f c]) = cs.map f
  | [] => rfl
  | c :: cs => by rw [List.flatMap_cons, flat_one cs]; rfl
theorem flat_drop {n : Str} : ∀ cs : List Col, cs.flatMap (fun c => if c.name = n then [] else [c]) = cs.filter (fun c => !decide (c.name = n))
  | [] => rfl
  | c :: cs => by
    rw [List.flatMap_cons, flat_drop cs, List.filter_cons]
    by_cases h : c.name = n
    · rw [if_pos h, if_neg (by rw [decide_eq_true h]; decide)]
      rfl
    · rw [if_neg h, if_pos (by rw [decide_eq_false h]; rfl)]
      rfl
theorem behind_flat (cs : List Col) (ch : Ch) (num : Int) : behind cs ch num = cs.flatMap (colR ch) ++ newR ch num := by
  cases ch with
  | add n g d =>
    show cs ++ _ = cs.flatMap (fun c => [c]) ++ _
    rw [flat_one (f := fun c => c), List.map_id']
    rfl
  | drop n =>
    show cs.filter _ = cs.flatMap (fun c => if c.name = n then [] else [c]) ++ []
    rw [flat_drop, List.append_nil]
  | rename n m => exact (by show cs.map _ = cs.flatMap (fun c => [_]) ++ []; rw [flat_one, List.append_nil])
  | dflt n v => exact (by show cs.map _ = cs.flatMap (fun c => [_]) ++ []; rw [flat_one, List.append_nil])
  | great n g way => exact (by show cs.map _ = cs.flatMap (fun c => [_]) ++ []; rw [flat_one, List.append_nil])
  | fill n i => exact (by show cs.map _ = cs.flatMap (fun c => [_]) ++ []; rw [flat_one, List.append_nil])
def giveR (ch : Ch) (c : Col) (w : V) : List (Key × V) := (colR ch c).map fun c' => (Sum.inr c'.name, w)
theorem step_give (ch : Ch) (c : Col) (w : V) (acc : List (Key × V)) : stepR ch c w acc = mergeK acc (giveR ch c w) := by
  cases ch with
  | add n g d => rfl
  | drop n =>
    show (if c.name = n then acc else putK acc (Sum.inr c.name) w) = mergeK acc ((if c.name = n then [] else [c]).map _)
    by_cases h : c.name = n
    · rw [if_pos h, if_pos h]
      rfl
    · rw [if_neg h, if_neg h]
      rfl
  | rename n m =>
    show (if c.name = n then putK acc (Sum.inr m) w else putK acc (Sum.inr c.name) w) = mergeK acc ([if c.name = n then ({ c with name := m } : Col) else c].map _)
    by_cases h : c.name = n
    · rw [if_pos h, if_pos h]
      rfl
    · rw [if_neg h, if_neg h]
      rfl
  | dflt n v =>
    show putK acc (Sum.inr c.name) w = mergeK acc ([if c.name = n then chgC c (.dflt n v) else c].map _)
    by_cases h : c.name = n
    · rw [if_pos h]
      rfl
    · rw [if_neg h]
      rfl
  | great n g way =>
    show putK acc (Sum.inr c.name) w = mergeK acc ([if c.name = n then chgC c (.great n g way) else c].map _)
    by_cases h : c.name = n
    · rw [if_pos h]
      rfl
    · rw [if_neg h]
      rfl
  | fill n i =>
    show putK acc (Sum.inr c.name) w = mergeK acc ([if c.name = n then chgC c (.fill n i) else c].map _)
    by_cases h : c.name = n
    · rw [if_pos h]
      rfl
    · rw [if_neg h]
      rfl
theorem give_row {ch : Ch} {c : Col} {w : V} : ∀ {ds : List Col}, (∀ c' ∈ ds, isIn c'.top w = true) → RowP ds (ds.map fun c' => (Sum.inr c'.name, w))
  | [], _ => .nil
  | d :: ds, h => .cons (h d List.mem_cons_self) (give_row (ch := ch) (c := c) fun c' hc => h c' (List.mem_cons_of_mem _ hc))
theorem go_row {ch : Ch} : ∀ {cs : List Col} {kvs : List (Key × V)}, RowP cs kvs → (∀ c ∈ cs, ∀ v, isIn c.top v = true → isMis (chgV c.name ch v) = false → ∀ c' ∈ colR ch c, isIn c'.top (chgV c.name ch v) = true) →
    ∀ acc acc', rowGo ch cs (kvs.map (·.2)) acc = some acc' → ∃ more, RowP (cs.flatMap (colR ch)) more ∧ acc' = mergeK acc more
  | _, _, .nil, _, acc, acc', h => ⟨[], .nil, (Option.some.inj h).symm⟩
  | _, _, .cons (c := c) (cs := cs) (v := v) (kvs := kvs) hv t, k, acc, acc', h => by
    have h : (if isMis (chgV c.name ch v) = true then none else rowGo ch cs (kvs.map (·.2)) (stepR ch c (chgV c.name ch v) acc)) = some acc' := h
    cases hm : isMis (chgV c.name ch v) with
    | true =>
      rw [hm, if_pos rfl] at h
      cases h
    | false =>
      rw [hm, if_neg (by decide)] at h
      obtain ⟨more, h1, h2⟩ := go_row t (fun c' hc => k c' (List.mem_cons_of_mem _ hc)) _ _ h
      refine ⟨giveR ch c (chgV c.name ch v) ++ more, ?_, ?_⟩
      · rw [List.flatMap_cons]
        exact (give_row (ch := ch) (c := c) (k c List.mem_cons_self v hv hm)).app h1
      · rw [h2, step_give]
        show List.foldl _ (List.foldl _ acc _) more = List.foldl _ acc _
        rw [List.foldl_append]
theorem chg_in {cs : List Col} {ch : Ch} {c : Col} {v : V} (nms : (cs.map (·.name)).Nodup) (f : ch.fits = true) (hz : hindV cs ch = .non) (hc : c ∈ cs) (h : isIn c.top v = true) (m : isMis (chgV c.name ch v) = false) : ∀ c' ∈ colR ch c, isIn c'.top (chgV c.name ch v) = true := by
  have whole : ∀ {j g : Int}, isIn g (.int j) = true ↔ 0 ≤ j ∧ j ≤ g := fun {j g} => by
    show (decide (0 ≤ j) && decide (j ≤ g)) = true ↔ _
    rw [Bool.and_eq_true, decide_eq_true_iff, decide_eq_true_iff]
  intro c' hc'
  by_cases hn : c.name = ch.name
  · have hfind : cs.find? (isN ch.name) = some c := find_uniq nms hc hn
    unfold chgV at m ⊢
    rw [if_pos hn.symm] at m ⊢
    cases ch with
    | add n g d =>
      rw [List.mem_singleton.mp hc']
      exact h
    | drop n =>
      have : c' ∈ (if c.name = n then [] else [c]) := hc'
      rw [if_pos (show c.name = n from hn)] at this
      cases this
    | rename n k =>
      have e : c' = (if c.name = (Ch.rename n k).name then chgC c (.rename n k) else c) := List.mem_singleton.mp hc'
      rw [if_pos hn] at e
      rw [e]
      exact h
    | dflt n x =>
      have e : c' = (if c.name = (Ch.dflt n x).name then chgC c (.dflt n x) else c) := List.mem_singleton.mp hc'
      rw [if_pos hn] at e
      rw [e]
      exact h
    | great n g way =>
      have e : c' = (if c.name = (Ch.great n g way).name then chgC c (.great n g way) else c) := List.mem_singleton.mp hc'
      rw [if_pos hn] at e
      rw [e]
      have f : (isNm (.str n) && (isGr (.int g) && isWy way)) = true := f
      rw [Bool.and_eq_true, Bool.and_eq_true] at f
      have hg : 1 ≤ g := of_decide_eq_true (Bool.and_eq_true_iff.mp f.2.1).1
      show isIn g _ = true
      cases v with
      | non => rfl
      | int j =>
        have hj := whole.mp h
        have m : isMis (if g < j then abv g way else .int j) = false := m
        show isIn g (if g < j then abv g way else .int j) = true
        by_cases q : g < j
        · rw [if_pos q] at m ⊢
          unfold abv at m ⊢
          split
          · exact whole.mpr ⟨by omega, Int.le_refl _⟩
          · rename_i q1
            rw [if_neg q1] at m
            split
            · rfl
            · rename_i q2
              rw [if_neg q2] at m
              exact absurd m (by decide +kernel)
        · rw [if_neg q]
          exact whole.mpr ⟨hj.1, by omega⟩
      | _ => cases h
    | fill n i =>
      have e : c' = (if c.name = (Ch.fill n i).name then chgC c (.fill n i) else c) := List.mem_singleton.mp hc'
      rw [if_pos hn] at e
      rw [e]
      have hf : cs.find? (isN n) = some c := hfind
      have hz : hindV cs (.fill n i) = .non := hz
      simp only [hindV, hf] at hz
      show isIn c.top _ = true
      cases v with
      | non =>
        show isIn c.top (.int i) = true
        by_cases q : isIn c.top (.int i) = true
        · exact q
        · rw [if_neg q] at hz
          cases hz
      | int j => exact h
      | _ => cases h
  · unfold chgV
    rw [if_neg (fun e => hn e.symm)]
    have e : c' = c := by
      cases ch with
      | add n g d => exact List.mem_singleton.mp hc'
      | drop n =>
        have : c' ∈ (if c.name = n then [] else [c]) := hc'
        rw [if_neg (show ¬ c.name = n from hn)] at this
        exact List.mem_singleton.mp this
      | rename n k =>
        have e : c' = (if c.name = (Ch.rename n k).name then chgC c (.rename n k) else c) := List.mem_singleton.mp hc'
        rw [if_neg hn] at e
        exact e
      | dflt n x =>
        have e : c' = (if c.name = (Ch.dflt n x).name then chgC c (.dflt n x) else c) := List.mem_singleton.mp hc'
        rw [if_neg hn] at e
        exact e
      | great n g way =>
        have e : c' = (if c.name = (Ch.great n g way).name then chgC c (.great n g way) else c) := List.mem_singleton.mp hc'
        rw [if_neg hn] at e
        exact e
      | fill n i =>
        have e : c' = (if c.name = (Ch.fill n i).name then chgC c (.fill n i) else c) := List.mem_singleton.mp hc'
        rw [if_neg hn] at e
        exact e
    rw [e]
    exact h
def lastR (ch : Ch) : List (Key × V) := match ch with
  | .add n _ d => [(Sum.inr n, d)]
  | _ => []
/-- a row that a change does not bar is a row of the columns behind -/
theorem rowThen_row {cs : List Col} {ch : Ch} {num : Int} {kvs kvs' : List (Key × V)} (g : Good cs num) (f : ch.fits = true) (hz : hindV cs ch = .non) (r : RowD cs kvs) (h : rowThen cs ch kvs = some kvs') : RowD (behind cs ch num) kvs' := by
  unfold rowThen at h
  cases e : rowGo ch cs (kvs.map (·.2)) [] with
  | none =>
    rw [e] at h
    cases h
  | some acc =>
    rw [e] at h
    obtain rfl := Option.some.inj h
    obtain ⟨more, h1, rfl⟩ := go_row (RowP.of r) (fun c hc v hv hm => chg_in g.names f hz hc hv hm) [] acc e
    have h2 : RowP (behind cs ch num) (more ++ lastR ch) := by
      rw [behind_flat]
      refine h1.app ?_
      cases ch with
      | add n gr d =>
        refine .cons ?_ .nil
        have hz : addHind cs n gr d = .non := hz
        unfold addHind at hz
        split at hz
        · cases hz
        · split at hz
          · cases hz
          · split at hz
            · assumption
            · cases hz
      | _ => exact .nil
    have e2 : endR ch (mergeK [] more) = mergeK [] (more ++ lastR ch) := by
      cases ch with
      | add n gr d =>
        show putK (mergeK [] more) (Sum.inr n) d = List.foldl _ [] (more ++ [(Sum.inr n, d)])
        rw [List.foldl_append]
        rfl
      | _ => exact (by show mergeK [] more = mergeK [] (more ++ []); rw [List.append_nil])
    show RowD _ (endR ch (mergeK [] more))
    rw [e2]
    have e3 := merge_new (more ++ lastR ch) [] (by rw [List.nil_append, h2.row.keys]; exact nodup_inr (g.step f hz).names)
    rw [List.nil_append] at e3
    rw [e3]
    exact h2.row
theorem ty_chg {K : PySem.W.Frag} {n : Str} {ch : Ch} {v : V} (h : valOk v = true) : ∃ t, ∀ H : Hp, TyX K H (chgV n ch v) (.type t) := by
  have hs := chg_scal (n := n) (c := ch) h
  cases e : chgV n ch v with
  | non => exact ⟨_, fun _ => .base .non⟩
  | int i => exact ⟨_, fun _ => .base (.int i)⟩
  | str z => exact ⟨_, fun _ => .base (.str z)⟩
  | bl b => exact ⟨_, fun _ => .base (.bl b)⟩
  | flt x => exact ⟨_, fun _ => .base (.flt x)⟩
  | byt b => exact ⟨_, fun _ => .byt b⟩
  | ref a => rw [e] at hs; cases hs
  | ty t => rw [e] at hs; cases hs
theorem step_len (ch : Ch) (c : Col) (v : V) (acc : List (Key × V)) : (stepR ch c v acc).length ≤ acc.length + 1 := by
  have h : ∀ k : Key, (putK acc k v).length ≤ acc.length + 1 := fun k => by
    unfold putK
    split
    · rw [List.length_map]
      omega
    · rw [List.length_append]
      exact Nat.le_refl _
  unfold stepR
  repeat (first | exact h _ | exact Nat.le_succ _ | split)
theorem go_at {ch : Ch} {cs : List Col} {vs : List V} {i : Nat} {c : Col} {v : V} {acc : List (Key × V)} (hc : cs[i]? = some c) (hv : vs[i]? = some v) : rowGo ch (cs.drop i) (vs.drop i) acc = if isMis (chgV c.name ch v) = true then none else rowGo ch (cs.drop (i + 1)) (vs.drop (i + 1)) (stepR ch c (chgV c.name ch v) acc) := by
  obtain ⟨hi, e1⟩ := List.getElem?_eq_some_iff.mp hc
  obtain ⟨hj, e2⟩ := List.getElem?_eq_some_iff.mp hv
  rw [List.drop_eq_getElem_cons hi, List.drop_eq_getElem_cons hj, e1, e2]
  rfl

/-- values of the columns, by their numbers -/
def FitE (cs : List Col) (es : List (Int × V)) : Prop := es.length = cs.length ∧ ∀ (j : Nat) (c : Col), cs[j]? = some c → ∃ v, es[j]? = some (c.num, v) ∧ isIn c.top v = true

/-! a row followed, as data -/
/-! trail: a stored row, edition by edition -/
/-- what a plain table has that was written so -/
def rowE (cs : List Col) (es : List (Int × V)) : List (Key × V) := cs.mapIdx fun j c => (Sum.inr c.name, match es[j]? with
  | some e => e.2
  | none => V.non)
theorem rowE_len {cs : List Col} {es : List (Int × V)} : (rowE cs es).length = cs.length := List.length_mapIdx
theorem rowE_at {cs : List Col} {es : List (Int × V)} (f : FitE cs es) {j : Nat} {c : Col} (h : cs[j]? = some c) : ∃ v, (rowE cs es)[j]? = some (Sum.inr c.name, v) ∧ es[j]? = some (c.num, v) ∧ isIn c.top v = true := by
  obtain ⟨v, h1, h2⟩ := f.2 j c h
  refine ⟨v, ?_, h1, h2⟩
  unfold rowE
  rw [List.getElem?_mapIdx, h]
  show some (Sum.inr c.name, match es[j]? with | some e => e.2 | none => V.non) = _
  rw [h1]
theorem rowE_row {cs : List Col} {es : List (Int × V)} (f : FitE cs es) : RowD cs (rowE cs es) := ⟨rowE_len, fun j c h => by
  obtain ⟨v, h1, _, h2⟩ := rowE_at f h
  exact ⟨v, h1, h2⟩⟩
/-- the row behind j changes more, if nothing bars it -/
def folTo (cs : List Col) (chs : List Ch) (i : Nat) (kvs : List (Key × V)) : Nat → Option (List (Key × V))
  | 0 => some kvs
  | j + 1 => match folTo cs chs i kvs j, chs[i + j]? with
    | some r, some ch => rowThen (atC cs (chs.take (i + j))).1 ch r
    | _, _ => none
theorem folTo_succ {cs : List Col} {chs : List Ch} {i j : Nat} {kvs r : List (Key × V)} {ch : Ch} (h1 : folTo cs chs i kvs j = some r) (h2 : chs[i + j]? = some ch) : folTo cs chs i kvs (j + 1) = rowThen (atC cs (chs.take (i + j))).1 ch r := by
  show (match folTo cs chs i kvs j, chs[i + j]? with
    | some r, some ch => rowThen (atC cs (chs.take (i + j))).1 ch r
    | _, _ => none) = _
  rw [h1, h2]
theorem folTo_row {cs : List Col} {chs : List Ch} {i : Nat} {kvs : List (Key × V)} (o : HistOk cs chs) (r0 : RowD (atC cs (chs.take i)).1 kvs) : ∀ j, i + j ≤ chs.length → ∀ r, folTo cs chs i kvs j = some r → RowD (atC cs (chs.take (i + j))).1 r
  | 0, _, r, e => by
    obtain rfl := Option.some.inj e
    exact r0
  | j + 1, h, r, e => by
    cases h1 : folTo cs chs i kvs j with
    | none =>
      have : folTo cs chs i kvs (j + 1) = none := by
        show (match folTo cs chs i kvs j, chs[i + j]? with
          | some r, some ch => rowThen (atC cs (chs.take (i + j))).1 ch r
          | _, _ => none) = _
        rw [h1]
      rw [this] at e
      cases e
    | some r1 =>
      have h2 : chs[i + j]? = some chs[i + j] := List.getElem?_eq_getElem (by omega)
      rw [folTo_succ h1 h2] at e
      obtain ⟨ft, hz⟩ := o.f (i + j) _ h2
      have := rowThen_row (o.f.good o.g (i + j) (by omega)) ft hz (folTo_row o r0 j (by omega) r1 h1) e
      rw [show i + (j + 1) = i + j + 1 from rfl, atC_snoc h2]
      exact this
/-- the rows stand at the addresses, one behind the other -/
def Fol (cs : List Col) (chs : List Ch) (i : Nat) (kvs : List (Key × V)) (H : Hp) (ds : List Addr) : Prop := ∀ (t : Nat) (d : Addr), ds[t]? = some d → ∃ r, folTo cs chs i kvs t = some r ∧ H d = some (.dK r)
theorem Fol.keep {cs : List Col} {chs : List Ch} {i : Nat} {kvs : List (Key × V)} {H H' : Hp} {ds : List Addr} (s : Same H H') (f : Fol cs chs i kvs H ds) : Fol cs chs i kvs H' ds := fun t d h => by
  obtain ⟨r, h1, h2⟩ := f t d h
  exact ⟨r, h1, s _ _ h2⟩

/-! rows that are put together of two, number by number -/
/-- the last part of a change -/
def lastV : Ch → V
  | .add _ _ d => d
  | .drop n => .str n
  | .rename _ m => .str m
  | .dflt _ v => v
  | .great _ _ way => .str way
  | .fill _ i => .int i
theorem last_at (ch : Ch) : atI ch.toV (-1) = some (lastV ch) := by cases ch <;> rfl
theorem last_scal {ch : Ch} (f : ch.fits = true) : scal (lastV ch) (.str "refuse") = true := by
  cases ch with
  | add n g d =>
    have h : isVal d = true := (Bool.and_eq_true_iff.mp (Bool.and_eq_true_iff.mp f).2).2
    cases d with
    | non => rfl
    | int _ => rfl
    | _ => cases h
  | dflt n d =>
    have h : isVal d = true := (Bool.and_eq_true_iff.mp f).2
    cases d with
    | non => rfl
    | int _ => rfl
    | _ => cases h
  | _ => rfl
def noRef (ch : Ch) : Bool := !decide (lastV ch = .str "refuse")
theorem noRef_free {ch : Ch} {n : Str} {g : Int} {v : V} (f : ch.fits = true) (nr : noRef ch = true) (h : isIn g v = true) : isMis (chgV n ch v) = false := by
  have hv : isMis v = false := by
    cases v with
    | str _ => cases h
    | _ => rfl
  unfold chgV
  split
  · cases ch with
    | great m g' way =>
      cases v with
      | int j =>
        show isMis (if g' < j then abv g' way else .int j) = false
        split
        · have nr : (!decide (V.str way = .str "refuse")) = true := nr
          have hw : isWy way = true := (Bool.and_eq_true_iff.mp (Bool.and_eq_true_iff.mp f).2).2
          unfold abv
          split
          · rfl
          · split
            · rfl
            · rename_i h1 h2
              exfalso
              unfold isWy at hw
              rw [decide_eq_false h1, decide_eq_false h2, Bool.false_or, Bool.false_or] at hw
              rw [of_decide_eq_true hw, decide_eq_true rfl] at nr
              cases nr
        · rfl
      | non => rfl
      | _ => cases h
    | fill m i =>
      cases v with
      | non => rfl
      | int _ => rfl
      | _ => cases h
    | _ => exact hv
  · exact hv
/-- what the columns give to the row behind -/
def giveL (ch : Ch) : List Col → List V → List (Key × V)
  | c :: cs, v :: vs => giveR ch c (chgV c.name ch v) ++ giveL ch cs vs
  | _, _ => []
theorem go_give {ch : Ch} : ∀ {cs : List Col} {vs : List V} {acc acc' : List (Key × V)}, rowGo ch cs vs acc = some acc' → acc' = mergeK acc (giveL ch cs vs)
  | c :: cs, v :: vs, acc, acc', h => by
    have h : (if isMis (chgV c.name ch v) = true then none else rowGo ch cs vs (stepR ch c (chgV c.name ch v) acc)) = some acc' := h
    cases hm : isMis (chgV c.name ch v) with
    | true =>
      rw [hm, if_pos rfl] at h
      cases h
    | false =>
      rw [hm, if_neg (by decide)] at h
      rw [go_give h, step_give]
      show List.foldl _ (List.foldl _ acc _) _ = List.foldl _ acc (giveR ch c (chgV c.name ch v) ++ giveL ch cs vs)
      rw [List.foldl_append]
  | [], vs, acc, acc', h => by
    have h : some acc = some acc' := by cases vs <;> exact h
    exact (Option.some.inj h).symm
  | _ :: _, [], acc, acc', h => (Option.some.inj (show some acc = some acc' from h)).symm
theorem go_free {ch : Ch} : ∀ {cs : List Col} {vs : List V} {acc : List (Key × V)}, (∀ (i : Nat) c v, cs[i]? = some c → vs[i]? = some v → isMis (chgV c.name ch v) = false) → ∃ acc', rowGo ch cs vs acc = some acc'
  | c :: cs, v :: vs, acc, h => by
    obtain ⟨acc', q⟩ := go_free (ch := ch) (cs := cs) (vs := vs) (acc := stepR ch c (chgV c.name ch v) acc) fun i c' v' h1 h2 => h (i + 1) c' v' (by simpa using h1) (by simpa using h2)
    refine ⟨acc', ?_⟩
    show (if isMis (chgV c.name ch v) = true then none else rowGo ch cs vs (stepR ch c (chgV c.name ch v) acc)) = some acc'
    rw [h 0 c v rfl rfl, if_neg (by decide)]
    exact q
  | [], vs, acc, _ => ⟨acc, by cases vs <;> rfl⟩
  | _ :: _, [], acc, _ => ⟨acc, rfl⟩
theorem give_keys {ch : Ch} : ∀ {cs : List Col} {vs : List V}, vs.length = cs.length → (giveL ch cs vs).map (·.1) = (cs.flatMap (colR ch)).map fun c => (Sum.inr c.name : Key)
  | [], [], _ => rfl
  | [], _ :: _, h => by cases h
  | _ :: _, [], h => by cases h
  | c :: cs, v :: vs, h => by
    show (giveR ch c (chgV c.name ch v) ++ giveL ch cs vs).map (·.1) = _
    rw [List.map_append, give_keys (Nat.succ.inj h), List.flatMap_cons, List.map_append]
    congr 1
    unfold giveR
    rw [List.map_map]
    rfl
theorem rowThen_give {cs : List Col} {ch : Ch} {num : Int} {kvs kvs' : List (Key × V)} (g : Good cs num) (f : ch.fits = true) (hz : hindV cs ch = .non) (r : RowD cs kvs) (h : rowThen cs ch kvs = some kvs') : kvs' = giveL ch cs (kvs.map (·.2)) ++ lastR ch := by
  unfold rowThen at h
  cases e : rowGo ch cs (kvs.map (·.2)) [] with
  | none =>
    rw [e] at h
    cases h
  | some acc =>
    rw [e] at h
    obtain rfl := Option.some.inj h
    have e1 := go_give e
    subst e1
    have e2 : endR ch (mergeK [] (giveL ch cs (kvs.map (·.2)))) = mergeK [] (giveL ch cs (kvs.map (·.2)) ++ lastR ch) := by
      cases ch with
      | add n gr d =>
        show putK (mergeK [] _) (Sum.inr n) d = List.foldl _ [] (_ ++ [(Sum.inr n, d)])
        rw [List.foldl_append]
        rfl
      | _ => exact (by show mergeK [] _ = mergeK [] (_ ++ []); rw [List.append_nil])
    rw [e2]
    have hk : (giveL ch cs (kvs.map (·.2)) ++ lastR ch).map (·.1) = ((behind cs ch num).map (·.name)).map (Sum.inr : Str → Key) := by
      rw [List.map_append, give_keys (by rw [List.length_map, r.1]), behind_flat, List.map_append, List.map_append, List.map_map]
      congr 1
      cases ch <;> rfl
    have e3 := merge_new (giveL ch cs (kvs.map (·.2)) ++ lastR ch) [] (by rw [List.nil_append, hk]; exact nodup_inr (g.step f hz).names)
    rw [List.nil_append] at e3
    exact e3
/-- which of two rows a number is of; none: a number of neither -/
def MixO (pick : Int → Option Bool) (n : Int) (v1 v2 vm : V) : Prop := match pick n with
  | none => v2 = v1 ∧ vm = v1
  | some false => vm = v1
  | some true => vm = v2
theorem MixO.map {pick : Int → Option Bool} {n : Int} {v1 v2 vm : V} (f : V → V) (h : MixO pick n v1 v2 vm) : MixO pick n (f v1) (f v2) (f vm) := by
  unfold MixO at h ⊢
  cases e : pick n with
  | none =>
    rw [e] at h
    exact ⟨congrArg f h.1, congrArg f h.2⟩
  | some b =>
    rw [e] at h
    cases b
    · exact congrArg f h
    · exact congrArg f h
inductive MixV (pick : Int → Option Bool) : List Col → List (Key × V) → List (Key × V) → List (Key × V) → Prop
  | nil : MixV pick [] [] [] []
  | cons {c : Col} {cs : List Col} {r1 r2 rm : List (Key × V)} {v1 v2 vm : V} : MixO pick c.num v1 v2 vm → MixV pick cs r1 r2 rm → MixV pick (c :: cs) ((Sum.inr c.name, v1) :: r1) ((Sum.inr c.name, v2) :: r2) ((Sum.inr c.name, vm) :: rm)
theorem MixV.app {pick : Int → Option Bool} : ∀ {cs ds : List Col} {r1 r2 rm s1 s2 sm : List (Key × V)}, MixV pick cs r1 r2 rm → MixV pick ds s1 s2 sm → MixV pick (cs ++ ds) (r1 ++ s1) (r2 ++ s2) (rm ++ sm)
  | _, _, _, _, _, _, _, _, .nil, h => h
  | _, _, _, _, _, _, _, _, .cons h t, q => .cons h (t.app q)
theorem mix_same {pick : Int → Option Bool} {n : Int} {w1 w2 wm : V} (h : MixO pick n w1 w2 wm) : ∀ {ds : List Col}, (∀ c ∈ ds, c.num = n) → MixV pick ds (ds.map fun c => (Sum.inr c.name, w1)) (ds.map fun c => (Sum.inr c.name, w2)) (ds.map fun c => (Sum.inr c.name, wm))
  | [], _ => .nil
  | d :: ds, k => .cons (by rw [k d List.mem_cons_self]; exact h) (mix_same h fun c hc => k c (List.mem_cons_of_mem _ hc))
theorem colR_num {ch : Ch} {c : Col} : ∀ c' ∈ colR ch c, c'.num = c.num := by
  intro c' h
  have one : ∀ d : Col, d.num = c.num → c' ∈ [d] → c'.num = c.num := fun d e q => by rw [List.mem_singleton.mp q]; exact e
  have hn : ∀ c2 : Ch, (if c.name = c2.name then chgC c c2 else c).num = c.num := fun c2 => by
    split
    · cases c2 <;> rfl
    · rfl
  cases ch with
  | add n g d => exact one c rfl h
  | drop n =>
    have h : c' ∈ (if c.name = n then [] else [c]) := h
    split at h
    · cases h
    · exact one c rfl h
  | rename n m => exact one _ (hn _) h
  | dflt n v => exact one _ (hn _) h
  | great n g way => exact one _ (hn _) h
  | fill n i => exact one _ (hn _) h
theorem mix_give {pick : Int → Option Bool} {ch : Ch} : ∀ {cs : List Col} {r1 r2 rm : List (Key × V)}, MixV pick cs r1 r2 rm → MixV pick (cs.flatMap (colR ch)) (giveL ch cs (r1.map (·.2))) (giveL ch cs (r2.map (·.2))) (giveL ch cs (rm.map (·.2)))
  | _, _, _, _, .nil => .nil
  | _, _, _, _, .cons (c := c) h t => by
    rw [List.flatMap_cons]
    exact (mix_same (h.map (chgV c.name ch)) colR_num).app (mix_give t)
theorem mix_step {pick : Int → Option Bool} {cs : List Col} {ch : Ch} {num : Int} {r1 r2 rm s1 s2 sm : List (Key × V)} (g : Good cs num) (f : ch.fits = true) (hz : hindV cs ch = .non) (d1 : RowD cs r1) (d2 : RowD cs r2) (dm : RowD cs rm) (new : pick num = none) (M : MixV pick cs r1 r2 rm)
    (h1 : rowThen cs ch r1 = some s1) (h2 : rowThen cs ch r2 = some s2) (hm : rowThen cs ch rm = some sm) : MixV pick (behind cs ch num) s1 s2 sm := by
  rw [rowThen_give g f hz d1 h1, rowThen_give g f hz d2 h2, rowThen_give g f hz dm hm, behind_flat]
  refine (mix_give M).app ?_
  cases ch with
  | add n gr d =>
    refine .cons ?_ .nil
    show MixO pick num d d d
    unfold MixO
    rw [new]
    exact ⟨rfl, rfl⟩
  | _ => exact .nil
theorem MixV.at_ {pick : Int → Option Bool} : ∀ {cs : List Col} {r1 r2 rm : List (Key × V)} {j : Nat} {c : Col}, MixV pick cs r1 r2 rm → cs[j]? = some c → ∃ v1 v2 vm, r1[j]? = some (Sum.inr c.name, v1) ∧ r2[j]? = some (Sum.inr c.name, v2) ∧ rm[j]? = some (Sum.inr c.name, vm) ∧ MixO pick c.num v1 v2 vm
  | _, _, _, _, _, _, .nil, h => by simp at h
  | _, _, _, _, 0, c, .cons h t, e => by
    obtain rfl := Option.some.inj e
    exact ⟨_, _, _, rfl, rfl, rfl, h⟩
  | _, _, _, _, j + 1, c, .cons h t, e => by
    obtain ⟨v1, v2, vm, h1, h2, h3, h4⟩ := MixV.at_ (j := j) t (by simpa using e)
    exact ⟨v1, v2, vm, by simpa using h1, by simpa using h2, by simpa using h3, h4⟩
theorem MixV.of {pick : Int → Option Bool} : ∀ {cs : List Col} {r1 r2 rm : List (Key × V)}, r1.length = cs.length → r2.length = cs.length → rm.length = cs.length →
    (∀ (j : Nat) (c : Col), cs[j]? = some c → ∃ v1 v2 vm, r1[j]? = some (Sum.inr c.name, v1) ∧ r2[j]? = some (Sum.inr c.name, v2) ∧ rm[j]? = some (Sum.inr c.name, vm) ∧ MixO pick c.num v1 v2 vm) → MixV pick cs r1 r2 rm
  | [], [], [], [], _, _, _, _ => .nil
  | [], _ :: _, _, _, h, _, _, _ => by cases h
  | [], [], _ :: _, _, _, h, _, _ => by cases h
  | [], [], [], _ :: _, _, _, h, _ => by cases h
  | _ :: _, [], _, _, h, _, _, _ => by cases h
  | _ :: _, _ :: _, [], _, _, h, _, _ => by cases h
  | _ :: _, _ :: _, _ :: _, [], _, _, h, _ => by cases h
  | c :: cs, a :: r1, b :: r2, m :: rm, l1, l2, l3, f => by
    obtain ⟨v1, v2, vm, h1, h2, h3, h4⟩ := f 0 c rfl
    obtain rfl := Option.some.inj h1
    obtain rfl := Option.some.inj h2
    obtain rfl := Option.some.inj h3
    exact .cons h4 (MixV.of (Nat.succ.inj l1) (Nat.succ.inj l2) (Nat.succ.inj l3) fun j c' hc => by
      obtain ⟨w1, w2, wm, k1, k2, k3, k4⟩ := f (j + 1) c' (by simpa using hc)
      exact ⟨w1, w2, wm, by simpa using k1, by simpa using k2, by simpa using k3, k4⟩)
theorem atC_up {cs : List Col} {chs : List Ch} {i : Nat} : ∀ t, i + t ≤ chs.length → (atC cs (chs.take i)).2 ≤ (atC cs (chs.take (i + t))).2
  | 0, _ => Int.le_refl _
  | t + 1, h => by
    have e : chs[i + t]? = some chs[i + t] := List.getElem?_eq_getElem (by omega)
    have ih := atC_up (cs := cs) (chs := chs) (i := i) t (by omega)
    rw [show i + (t + 1) = i + t + 1 from rfl, atC_snoc e]
    show _ ≤ numThen chs[i + t] (atC cs (chs.take (i + t))).2
    by_cases k : chs[i + t].kind = "add"
    · rw [kind_add k]
      omega
    · rw [kind_noadd k]
      exact ih
/-- three rows followed: none is barred, and the third stays put together of the two -/
theorem mix_fol {cs : List Col} {chs : List Ch} {i : Nat} {k1 k2 km : List (Key × V)} {pick : Int → Option Bool} (o : HistOk cs chs) (nr : ∀ ch ∈ chs, noRef ch = true) (d1 : RowD (atC cs (chs.take i)).1 k1) (d2 : RowD (atC cs (chs.take i)).1 k2) (dm : RowD (atC cs (chs.take i)).1 km)
    (M : MixV pick (atC cs (chs.take i)).1 k1 k2 km) (new : ∀ n, (atC cs (chs.take i)).2 ≤ n → pick n = none) : ∀ t, i + t ≤ chs.length → ∃ r1 r2 rm, folTo cs chs i k1 t = some r1 ∧ folTo cs chs i k2 t = some r2 ∧ folTo cs chs i km t = some rm ∧ MixV pick (atC cs (chs.take (i + t))).1 r1 r2 rm
  | 0, _ => ⟨k1, k2, km, rfl, rfl, rfl, M⟩
  | t + 1, h => by
    obtain ⟨r1, r2, rm, e1, e2, em, M'⟩ := mix_fol o nr d1 d2 dm M new t (by omega)
    have hc : chs[i + t]? = some chs[i + t] := List.getElem?_eq_getElem (by omega)
    obtain ⟨ft, hz⟩ := o.f (i + t) _ hc
    have g := o.f.good o.g (i + t) (by omega)
    have q1 := folTo_row o d1 t (by omega) r1 e1
    have q2 := folTo_row o d2 t (by omega) r2 e2
    have qm := folTo_row o dm t (by omega) rm em
    have free : ∀ r, RowD (atC cs (chs.take (i + t))).1 r → ∃ s, rowThen (atC cs (chs.take (i + t))).1 chs[i + t] r = some s := fun r q => by
      obtain ⟨acc, e⟩ := go_free (ch := chs[i + t]) (cs := (atC cs (chs.take (i + t))).1) (vs := r.map (·.2)) (acc := []) fun j c v h1 h2 => by
        obtain ⟨v', h3, h4⟩ := q.2 j c h1
        rw [List.getElem?_map, h3] at h2
        obtain rfl : v' = v := Option.some.inj h2
        exact noRef_free ft (nr _ (List.mem_of_getElem? hc)) h4
      exact ⟨_, by unfold rowThen; rw [e]; rfl⟩
    obtain ⟨s1, f1⟩ := free r1 q1
    obtain ⟨s2, f2⟩ := free r2 q2
    obtain ⟨sm, fm⟩ := free rm qm
    refine ⟨s1, s2, sm, by rw [folTo_succ e1 hc]; exact f1, by rw [folTo_succ e2 hc]; exact f2, by rw [folTo_succ em hc]; exact fm, ?_⟩
    rw [show i + (t + 1) = i + t + 1 from rfl, atC_snoc hc]
    exact mix_step g ft hz q1 q2 qm (new _ (atC_up t (by omega))) M' f1 f2 fm

/-! columns by their numbers, through the editions; what becomes of a value under a number -/
abbrev colsE (cs : List Col) (chs : List Ch) (i : Nat) : List Col := (atC cs (chs.take i)).1
abbrev numE (cs : List Col) (chs : List Ch) (i : Nat) : Int := (atC cs (chs.take i)).2
/-- the column with the number n at an edition -/
abbrev colE (cs : List Col) (chs : List Ch) (i : Nat) (n : Int) : Option Col := (colsE cs chs i).find? (isK n)
theorem findK_mem {cs : List Col} {n : Int} {c : Col} (h : cs.find? (isK n) = some c) : c ∈ cs ∧ c.num = n := by
  have h2 := List.find?_some h
  exact ⟨List.mem_of_find?_eq_some h, of_decide_eq_true (show decide (c.num = n) = true from h2)⟩
theorem findK_none {cs : List Col} {n : Int} (h : cs.find? (isK n) = none) : ∀ c ∈ cs, c.num ≠ n := fun c hc e => by
  have := List.find?_eq_none.mp h c hc
  exact this (decide_eq_true e)
theorem asc_find {cs : List Col} {c : Col} (a : Asc cs) (hc : c ∈ cs) : cs.find? (isK c.num) = some c := by
  cases h : cs.find? (isK c.num) with
  | none => exact absurd rfl (findK_none h c hc)
  | some d =>
    obtain ⟨h1, h2⟩ := findK_mem h
    obtain ⟨i, hi⟩ := List.mem_iff_getElem?.mp hc
    obtain ⟨j, hj⟩ := List.mem_iff_getElem?.mp h1
    obtain rfl := asc_uniq a hj hi h2
    rw [← hj, hi]
theorem mem_behind {cs : List Col} {ch : Ch} {num : Int} {c' : Col} : c' ∈ behind cs ch num ↔ (∃ c ∈ cs, c' ∈ colR ch c) ∨ c' ∈ newR ch num := by
  rw [behind_flat, List.mem_append, List.mem_flatMap]
theorem newR_num {ch : Ch} {num : Int} {c : Col} (h : c ∈ newR ch num) : c.num = num := by
  cases ch with
  | add n g d =>
    rw [List.mem_singleton.mp h]
  | _ => cases h
section
variable {cs : List Col} {chs : List Ch}
theorem colsE_succ {i : Nat} {ch : Ch} (h : chs[i]? = some ch) : colsE cs chs (i + 1) = behind (colsE cs chs i) ch (numE cs chs i) := by
  show (atC cs (chs.take (i + 1))).1 = _
  rw [atC_snoc h]
  rfl
theorem numE_succ {i : Nat} {ch : Ch} (h : chs[i]? = some ch) : numE cs chs (i + 1) = numThen ch (numE cs chs i) := by
  show (atC cs (chs.take (i + 1))).2 = _
  rw [atC_snoc h]
  rfl
theorem numE_mono {i j : Nat} (h : i ≤ j) : numE cs chs i ≤ numE cs chs j := grows h
/-- an elder number there behind a change was there ahead of it -/
theorem there_ahead {i : Nat} {n : Int} {c' : Col} (o : HistOk cs chs) {ch : Ch} (hc : chs[i]? = some ch) (h : colE cs chs (i + 1) n = some c') (hn : n < numE cs chs i) : ∃ c, colE cs chs i n = some c ∧ c' ∈ colR ch c := by
  obtain ⟨h1, h2⟩ := findK_mem h
  have h1 : c' ∈ behind (colsE cs chs i) ch (numE cs chs i) := by rw [← colsE_succ hc]; exact h1
  rcases mem_behind.mp h1 with ⟨c, h3, h4⟩ | h3
  · have e := colR_num c' h4
    refine ⟨c, ?_, h4⟩
    have hil := (List.getElem?_eq_some_iff.mp hc).1
    have := asc_find (asc_at o i (by omega)) h3
    rw [← e, h2] at this
    exact this
  · have := newR_num h3
    omega
theorem gone_on {i : Nat} {n : Int} (o : HistOk cs chs) {ch : Ch} (hc : chs[i]? = some ch) (h : colE cs chs i n = none) (hn : n < numE cs chs i) : colE cs chs (i + 1) n = none := by
  cases e : colE cs chs (i + 1) n with
  | none => rfl
  | some c' =>
    obtain ⟨c, h1, _⟩ := there_ahead o hc e hn
    rw [h] at h1
    cases h1
theorem gone_stays {i : Nat} {n : Int} (o : HistOk cs chs) (h : colE cs chs i n = none) (hn : n < numE cs chs i) : ∀ k, i + k ≤ chs.length → colE cs chs (i + k) n = none
  | 0, _ => h
  | k + 1, hk => by
    have hc : chs[i + k]? = some chs[i + k] := List.getElem?_eq_getElem (by omega)
    exact gone_on o hc (gone_stays o h hn k (by omega)) (Int.lt_of_lt_of_le hn (numE_mono (Nat.le_add_right i k)))
/-- one step of a value under a number -/
def stepN (cl : List Col) (ch : Ch) (n : Int) (v : V) : V := if isMis v = true then v else match cl.find? (isK n) with
  | some c => chgV c.name ch v
  | none => v
/-- what a value under a number becomes by the changes behind an edition, so many of them; MISSING where it is barred -/
def ledT (cs : List Col) (chs : List Ch) (n : Int) (s : Nat) (v : V) : Nat → V
  | 0 => v
  | k + 1 => match chs[s + k]? with
    | some ch => stepN (colsE cs chs (s + k)) ch n (ledT cs chs n s v k)
    | none => ledT cs chs n s v k
theorem ledT_succ {n : Int} {s k : Nat} {v : V} {ch : Ch} (h : chs[s + k]? = some ch) : ledT cs chs n s v (k + 1) = stepN (colsE cs chs (s + k)) ch n (ledT cs chs n s v k) := by
  show (match chs[s + k]? with
    | some ch => stepN (colsE cs chs (s + k)) ch n (ledT cs chs n s v k)
    | none => ledT cs chs n s v k) = _
  rw [h]
theorem stepN_mis {cl : List Col} {ch : Ch} {n : Int} {v : V} (h : isMis v = true) : stepN cl ch n v = v := if_pos h
theorem ledT_mis {n : Int} {s k : Nat} {v : V} (h : isMis (ledT cs chs n s v k) = true) : ∀ j, ledT cs chs n s v (k + j) = ledT cs chs n s v k
  | 0 => rfl
  | j + 1 => by
    show (match chs[s + (k + j)]? with
      | some ch => stepN (colsE cs chs (s + (k + j))) ch n (ledT cs chs n s v (k + j))
      | none => ledT cs chs n s v (k + j)) = _
    rw [ledT_mis h j]
    split
    · exact stepN_mis h
    · rfl
theorem ledT_gone {n : Int} {s k : Nat} {v : V} (o : HistOk cs chs) (h : colE cs chs (s + k) n = none) (hn : n < numE cs chs (s + k)) : ∀ j, s + k + j ≤ chs.length → ledT cs chs n s v (k + j) = ledT cs chs n s v k
  | 0, _ => rfl
  | j + 1, hj => by
    have hc : chs[s + (k + j)]? = some chs[s + (k + j)] := List.getElem?_eq_getElem (by omega)
    rw [show k + (j + 1) = (k + j) + 1 from rfl, ledT_succ hc, ledT_gone o h hn j (by omega)]
    have g := gone_stays o h hn j (by omega)
    rw [Nat.add_assoc] at g
    unfold stepN
    split
    · rfl
    · have g : (colsE cs chs (s + (k + j))).find? (isK n) = none := g
      rw [g]
theorem chg_val {n : Str} {ch : Ch} {v : V} (f : ch.fits = true) (h : isVal v = true) (hm : isMis (chgV n ch v) = false) : isVal (chgV n ch v) = true := by
  unfold chgV at hm ⊢
  split at hm
  · rename_i hn
    rw [if_pos hn]
    cases ch with
    | fill m i =>
      have f : (isNm (.str m) && decide (0 ≤ i)) = true := f
      cases v with
      | non => exact (Bool.and_eq_true_iff.mp f).2
      | _ => exact h
    | great m g way =>
      cases v with
      | int j =>
        have f : (isNm (.str m) && (isGr (.int g) && isWy way)) = true := f
        have hg := (Bool.and_eq_true_iff.mp (Bool.and_eq_true_iff.mp f).2).1
        have hg : (decide (1 ≤ g) && decide (g ≤ 99)) = true := hg
        have hg1 := of_decide_eq_true (Bool.and_eq_true_iff.mp hg).1
        show isVal (if g < j then abv g way else .int j) = true
        have hm : isMis (if g < j then abv g way else .int j) = false := hm
        split at hm
        · rename_i hj
          rw [if_pos hj]
          unfold abv at hm ⊢
          split at hm
          · rename_i hw
            rw [if_pos hw]
            exact decide_eq_true (by omega)
          · rename_i hw
            rw [if_neg hw]
            split at hm
            · rename_i hw2
              rw [if_pos hw2]
              rfl
            · rename_i hw2
              exact absurd hm (by decide)
        · rename_i hj
          rw [if_neg hj]
          exact h
      | _ => exact h
    | _ => exact h
  · rename_i hn
    rw [if_neg hn]
    exact h
theorem isVal_mis {v : V} (h : isVal v = true) : isMis v = false := by
  cases v with
  | str _ => cases h
  | _ => rfl
theorem isVal_ok {v : V} (h : isVal v = true) : valOk v = true := by
  cases v with
  | non => rfl
  | int _ => rfl
  | _ => cases h
theorem isVal_in {t : Int} {v : V} (h : isIn t v = true) : isVal v = true := by
  cases v with
  | non => rfl
  | int i => exact (Bool.and_eq_true_iff.mp (show (decide (0 ≤ i) && decide (i ≤ t)) = true from h)).1
  | _ => cases h
theorem stepN_val {cl : List Col} {ch : Ch} {n : Int} {v : V} (f : ch.fits = true) (h : isVal v = true) (hm : isMis (stepN cl ch n v) = false) : isVal (stepN cl ch n v) = true := by
  unfold stepN at hm ⊢
  rw [if_neg (by rw [isVal_mis h]; decide)] at hm ⊢
  cases e : cl.find? (isK n) with
  | none => exact h
  | some c =>
    rw [e] at hm
    exact chg_val f h hm
theorem ledT_mono {n : Int} {s k : Nat} {v : V} (h : isMis (ledT cs chs n s v (k + 1)) = false) : isMis (ledT cs chs n s v k) = false := by
  cases e : isMis (ledT cs chs n s v k) with
  | false => rfl
  | true =>
    rw [ledT_mis e 1, e] at h
    cases h
theorem ledT_val {n : Int} {s : Nat} {v : V} (o : HistOk cs chs) (h : isVal v = true) : ∀ k, isMis (ledT cs chs n s v k) = false → isVal (ledT cs chs n s v k) = true
  | 0, _ => h
  | k + 1, hm => by
    have ih := ledT_val o h k (ledT_mono hm)
    cases e : chs[s + k]? with
    | none =>
      have : ledT cs chs n s v (k + 1) = ledT cs chs n s v k := by
        show (match chs[s + k]? with
          | some ch => stepN (colsE cs chs (s + k)) ch n (ledT cs chs n s v k)
          | none => ledT cs chs n s v k) = _
        rw [e]
      rw [this]
      exact ih
    | some ch =>
      rw [ledT_succ e] at hm ⊢
      exact stepN_val (o.f _ _ e).1 ih hm
end

/-! a History as the receiver of a method; whole numbers of values -/
theorem histFs_no {e c b d : Addr} {m : Str} (h1 : (m == "_editions") = false) (h2 : (m == "_changes") = false) (h3 : (m == "_births") = false) (h4 : (m == "_drops") = false) : (histFs e c b d).lookup m = none := by
  unfold histFs
  simp [List.lookup, h1, h2, h3, h4]
theorem histM {K : PySem.W.Frag} {H : Hp} {h : Addr} {cs : List Col} {chs : List Ch} (q : HistAt K H h cs chs) : ∃ dx fs, H h = some (.ins (He.ga K "History") dx fs) ∧ fs.lookup ("columns" : Str) = none := by
  obtain ⟨dx, e, c, b, d, es, ts, hh, _⟩ := q
  exact ⟨dx, _, hh, histFs_no (by decide +kernel) (by decide +kernel) (by decide +kernel) (by decide +kernel)⟩
theorem histMx (m : Str) (d : ((m == "_editions") || ((m == "_changes") || ((m == "_births") || (m == "_drops")))) = false) {K : PySem.W.Frag} {H : Hp} {h : Addr} {cs : List Col} {chs : List Ch} (q : HistAt K H h cs chs) : ∃ dx fs, H h = some (.ins (He.ga K "History") dx fs) ∧ fs.lookup m = none := by
  obtain ⟨dx, e, c, b, d', es, ts, hh, _⟩ := q
  rw [Bool.or_eq_false_iff, Bool.or_eq_false_iff, Bool.or_eq_false_iff] at d
  exact ⟨dx, _, hh, histFs_no d.1 d.2.1 d.2.2.1 d.2.2.2⟩
theorem isEd_nat' {n m : Nat} (h : m ≤ n) : isEd n (.int (m : Nat)) = true := by
  show (decide ((0 : Int) ≤ (m : Nat)) && decide (((m : Nat) : Int) ≤ (n : Nat))) = true
  rw [decide_eq_true (by omega), decide_eq_true (by omega)]
  rfl
theorem ix_int {xs : List V} {n : Int} {v : V} (h0 : 0 ≤ n) (h : xs[n.toNat]? = some v) : atI xs n = some v := by
  have hl := (List.getElem?_eq_some_iff.mp h).1
  unfold atI
  rw [ixN_ok h0 (by omega)]
  exact h

/-! history.by_number(number, edition=..) -/
def sp_Hist_by_number (K : PySem.W.Frag) : Sp := fun vs H Q _ => ∃ (h : Addr) (cs : List Col) (chs : List Ch) (n : Int) (x : V), vs = [.ref h, .int n, x] ∧ HistAt K H h cs chs ∧ chs.length ≤ 1000 ∧ (x = .non ∨ isEd chs.length x = true) ∧
  ((colsAt cs chs x).find? (isK n) = none → Q .non H) ∧ ∀ a c, (colsAt cs chs x).find? (isK n) = some c → ColA K H a c → Q (.ref a) H
theorem ok_Hist_by_number (T : Tx K mg) : ∃ fd, FnOk P w K mg base CX0 5 (He.ma K (He.ga K "History") "by_number") fd ["self", "number", "edition"] (sp_Hist_by_number K) ∧ (∃ g, KBn K fd ["self", "number", "edition"] 2 ["edition"] g (fun vs zs => vs ++ zs)) ∧ ∃ ds, Vals [V.non] ds ∧ Binds K fd ["self", "number", "edition"] ds := by
  have C1 := ok_edition_of (P := P) (w := w) (base := base) T
  have C2 := (ok_column_numbered (P := P) (w := w) (base := base) T).up (show 2 ≤ 4 by decide)
  obtain ⟨fd, F⟩ := fd_History_by_number T
  refine ⟨fd, F.ok (CX := CX0) sc_History_by_number (fun vs H Q E h => ?_) (fun cdv A outer s H vs Q E hr h => ?_), ?_, ?_⟩
  · obtain ⟨h, cs, chs, n, x, rfl, _⟩ := h
    rfl
  · suffices hh : ∃ t, PSs (cxOf CX0 P w K mg base ["self", "number", "edition"] "History.by_number" (defScope s_History_by_number) (He.ma K (He.ga K "History") "by_number") cdv A outer s H E).nox (defBody s_History_by_number) t ∧
        t { nx := fun _ H' => Q .non H', rt := Q } (start ["self", "number", "edition"] vs) H by
      obtain ⟨t, h1, h2⟩ := hh
      exact ⟨t, h1.nox, h2⟩
    obtain ⟨h, cs, chs, n, x, rfl, hq, few, hx, kn, ky⟩ := h
    obtain ⟨dx, e, c, b, d, es, ts, hh, he, hE, hc, hC, hb, hd⟩ := id hq
    have bd := isEd_ix hx
    have hlen : es.length = chs.length + 1 := by rw [hE.len, edsTo_len]
    have hi : (edOf chs.length x).toNat < es.length := by omega
    obtain ⟨cs1, as1, hcs1, hea, hc1⟩ := hE.at_ (List.getElem?_eq_getElem hi)
    rw [edsTo_get (by omega)] at hcs1
    obtain rfl := Option.some.inj hcs1
    refine ⟨_, (pss_one (ps_ret (pcall C2 hr (pa_cons (pe_ix ix_list (pe_fld (pv 0) rfl) (pcall C1 hr (pa_cons (pv 0) (pa_cons (pv 2) pa_nil))) (fun _ _ => rfl)) (pa_cons (pv 1) pa_nil))))), ?_⟩
    refine ⟨_, rfl, h, _, dx, _, _, rfl, hh, cl_History T, na_History__editions T, histFs_editions, _, rfl, _, rfl, h, cs, chs, x, rfl, hq, few, hx, e, es.map V.ref, edOf chs.length x, .ref es[(edOf chs.length x).toNat], rfl, rfl, sqL_of he, ix_int bd.1 (by rw [List.getElem?_map, List.getElem?_eq_getElem hi]; rfl), _, rfl, _, as1, colsAt cs chs x, n, rfl, sqL_of hea, hc1, fun v hv => ?_⟩
    rcases hv with ⟨rfl, hno⟩ | ⟨j, a, c', rfl, ha, hcj, hfi⟩
    · exact kn hno
    · obtain ⟨c', q1, q2⟩ := hc1.at_ ha
      obtain rfl := Option.some.inj (hcj.symm.trans q1)
      exact ky a _ hfi q2
  · have h := F.kbinds0 (ps := ["self", "number", "edition"]) 2 ["edition"] [] (fun us mv ws => us ++ ws) (by intro z; cases z) (by intro q hq; cases hq) (fun r1 _ r4 => r1.append r4) (fun D doc pm an cdv ct us mv ws h1 h2 h3 => ?_)
    · obtain ⟨mv, h⟩ := h
      exact ⟨_, h⟩
    · match us, h1, mv, h2, ws, h3 with
      | [u0, u1], _, [], _, [w0], _ => exact rfl
  · exact F.binds0 (ps := ["self", "number", "edition"]) 2 (by intro z; cases z) rfl (fun D doc pm an cdv ct us ks h1 h2 => by
      match us, h1, ks, h2 with
      | [u0, u1], _, [i0], _ => exact ⟨_, _, _, _, _, _, rfl, rfl, rfl⟩)
/-! history.numbers() -/
def sp_Hist_numbers (K : PySem.W.Frag) : Sp := fun vs H Q _ => ∃ (h : Addr) (cs : List Col) (chs : List Ch), vs = [.ref h] ∧ HistAt K H h cs chs ∧ HistOk cs chs ∧ Q (.int (atC cs chs).2) H
theorem ok_Hist_numbers (T : Tx K mg) : ∃ fd, FnOk P w K mg base CX0 1 (He.ma K (He.ga K "History") "numbers") fd ["self"] (sp_Hist_numbers K) ∧ Binds K fd ["self"] [] := by
  refine mkMeth (fd_History_numbers T) sc_History_numbers (fun _ _ _ _ _ _ us hl => match us, hl with | [_], _ => rfl) (fun vs H Q E h => ?_) (fun cdv A outer s H vs Q E hr h => ?_)
  · obtain ⟨h, cs, chs, rfl, _⟩ := h
    rfl
  obtain ⟨h, cs, chs, rfl, ⟨dx, e, c, b, d, es, ts, hh, he, hE, hc, hC, hb, hd⟩, o, k⟩ := h
  refine ⟨_, pss_one (ps_ret (pe_callB call_len_seq (by rfl) (fr_len T) PySem.boot_len (pa_cons (pe_fld (pv 0) rfl) pa_nil))), ?_⟩
  refine ⟨_, rfl, h, _, dx, _, _, rfl, hh, cl_History T, na_History__births T, histFs_births, b, _, rfl, .inl (sqL_of hb), ?_⟩
  rw [List.length_map, o.born]
  exact k
/-! is_given, of a whole number -/
def sp_is_given (K : PySem.W.Frag) : Sp := fun vs H Q _ => ∃ (h : Addr) (cs : List Col) (chs : List Ch) (n : Int), vs = [.ref h, .int n] ∧ HistAt K H h cs chs ∧ HistOk cs chs ∧ Q (.bl (decide (0 ≤ n) && decide (n < (atC cs chs).2))) H
theorem ok_is_given (T : Tx K mg) : Callee P w K mg base CX0 2 "is_given" ["history", "value"] [] (sp_is_given K) := by
  have C1 := ok_is_whole (P := P) (w := w) (base := base) T
  obtain ⟨fdN, FN, bN⟩ := ok_Hist_numbers (P := P) (w := w) (base := base) T
  refine mkCallee (fd_is_given T) (mg_is_given T) sc_is_given (fun _ _ _ _ _ _ us hl => match us, hl with | [_, _], _ => rfl) (fun vs H Q E h => ?_) (fun cdv A outer s H vs Q E hr h => ?_)
  · obtain ⟨h, cs, chs, n, rfl, _⟩ := h
    rfl
  · obtain ⟨h, cs, chs, n, rfl, hh, o, k⟩ := h
    obtain ⟨dx, fs, hi, no⟩ := histMx "numbers" (by decide +kernel) hh
    refine ⟨_, pss_one (ps_ret (pe_and (pcall C1 hr (pa_cons (pv 1) pa_nil)) (pe_one (pe_chain op_le op_lt pe_int (pv 1) (pe_meth0 (pv 0) (cl_History T) (me_History_numbers T) FN hr bN .nil pass0))))), ?_⟩
    refine ⟨_, rfl, .int n, "int", rfl, .base (.int n), _, rfl, iteT ⟨_, rfl, _, _, rfl, rfl, _, rfl, ?_⟩⟩
    cases h1 : decide (0 ≤ n) with
    | false =>
      rw [h1] at k
      exact k
    | true =>
      rw [h1] at k
      exact ⟨_, rfl, h, dx, fs, rfl, hi, no, h, cs, chs, rfl, hh, o, _, _, rfl, rfl, k⟩
/-! births and drops: what the lists of a History tell -/
section
variable {cs : List Col} {chs : List Ch}
theorem bornStep_mem (i : Nat) : ∀ (cs : List Col) (b : List Int) (x : Int), x ∈ cs.foldl (bornStep i) b → x ∈ b ∨ x = (i : Int)
  | [], b, x, h => .inl h
  | c :: cs, b, x, h => by
    rcases bornStep_mem i cs _ x h with h | h
    · unfold bornStep at h
      split at h
      · rcases List.mem_append.mp h with h | h
        · exact .inl h
        · exact .inr (List.mem_singleton.mp h)
      · exact .inl h
    · exact .inr h
/-- the edition at which a number is first there -/
def BornIs (cs : List Col) (chs : List Ch) (n : Int) (b : Nat) : Prop := n < numE cs chs b ∧ ∀ i, i < b → numE cs chs i ≤ n
theorem BornIs.uniq {n : Int} {b b' : Nat} (h : BornIs cs chs n b) (h' : BornIs cs chs n b') : b = b' := by
  rcases Nat.lt_trichotomy b b' with q | q | q
  · have := h'.2 b q
    have := h.1
    omega
  · exact q
  · have := h.2 b' q
    have := h'.1
    omega
theorem born_to (o : HistOk cs chs) : ∀ i, i ≤ chs.length → ∀ n : Int, 0 ≤ n → n < numE cs chs i → ∃ b : Nat, (bornTo (edsTo cs chs (chs.length + 1)) (i + 1))[n.toNat]? = some ((b : Nat) : Int) ∧ b ≤ i ∧ BornIs cs chs n b
  | 0, _, n, h0, h1 => by
    have hl := o.f.born o.pl o.g 0 (Nat.zero_le _)
    have hn : n.toNat < (bornTo (edsTo cs chs (chs.length + 1)) (0 + 1)).length := by
      have h1 : n < (atC cs (chs.take 0)).2 := h1
      omega
    have hg := List.getElem?_eq_getElem hn
    have hm := List.mem_of_getElem? hg
    have e0 : bornTo (edsTo cs chs (chs.length + 1)) (0 + 1) = (List.getD (edsTo cs chs (chs.length + 1)) 0 []).foldl (bornStep 0) [] := rfl
    have hz : (bornTo (edsTo cs chs (chs.length + 1)) (0 + 1))[n.toNat] = ((0 : Nat) : Int) := by
      rcases bornStep_mem 0 _ [] _ (by rw [← e0]; exact hm) with h | h
      · cases h
      · exact h
    rw [hz] at hg
    exact ⟨0, hg, Nat.le_refl _, h1, fun i hi => by omega⟩
  | i + 1, hi, n, h0, h1 => by
    obtain ⟨ch, e⟩ : ∃ ch, chs[i]? = some ch := ⟨_, List.getElem?_eq_getElem (by omega)⟩
    have gd := o.f.good o.g i (by omega)
    have gd2 := gd.step (o.f i _ e).1 (o.f i _ e).2
    have hl : ((bornTo (edsTo cs chs (chs.length + 1)) (i + 1)).length : Int) = numE cs chs i := o.f.born o.pl o.g i (by omega)
    have eb : bornTo (edsTo cs chs (chs.length + 1)) (i + 1 + 1) = (behind (atC cs (chs.take i)).1 ch (atC cs (chs.take i)).2).foldl (bornStep (i + 1)) (bornTo (edsTo cs chs (chs.length + 1)) (i + 1)) := by
      show (List.getD (edsTo cs chs (chs.length + 1)) (i + 1) []).foldl (bornStep (i + 1)) _ = _
      rw [List.getD_eq_getElem?_getD, edsTo_get (by omega), atC_snoc e]
      rfl
    rw [numE_succ e] at h1
    by_cases hn : n < numE cs chs i
    · obtain ⟨b, h2, h3, h4⟩ := born_to o i (by omega) n h0 hn
      refine ⟨b, ?_, by omega, h4⟩
      have hlt := (List.getElem?_eq_some_iff.mp h2).1
      rw [eb]
      -- what was told stays
      have pre : ∀ (cl : List Col) (bb : List Int), n.toNat < bb.length → (cl.foldl (bornStep (i + 1)) bb)[n.toNat]? = bb[n.toNat]? := fun cl => by
        induction cl with
        | nil => exact fun bb _ => rfl
        | cons c cl ih =>
          intro bb hb
          show (cl.foldl (bornStep (i + 1)) (bornStep (i + 1) bb c))[n.toNat]? = _
          by_cases q : c.num = bb.length
          · rw [bornStep_pos q, ih _ (by rw [List.length_append]; omega), List.getElem?_append_left hb]
          · rw [bornStep_neg q]
            exact ih bb hb
      rw [pre _ _ hlt]
      exact h2
    · -- the number is new
      have ka : ch.kind = "add" := by
        cases hk : decide (ch.kind = "add") with
        | true => exact of_decide_eq_true hk
        | false =>
          rw [kind_noadd (of_decide_eq_false hk)] at h1
          exact absurd h1 hn
      rw [kind_add ka] at h1
      have en : n = numE cs chs i := by omega
      cases ch with
      | add nm gr d =>
        have hs : (atC cs (chs.take i)).1.foldl (bornStep (i + 1)) (bornTo (edsTo cs chs (chs.length + 1)) (i + 1)) = bornTo (edsTo cs chs (chs.length + 1)) (i + 1) := bornSame fun c hc => by rw [hl]; exact (gd.ok c hc).2
        rw [show behind (atC cs (chs.take i)).1 (.add nm gr d) (atC cs (chs.take i)).2 = (atC cs (chs.take i)).1 ++ [⟨nm, gr, d, (atC cs (chs.take i)).2⟩] from rfl, List.foldl_append, hs, List.foldl_cons, List.foldl_nil, bornStep_pos (show (atC cs (chs.take i)).2 = _ from hl.symm)] at eb
        refine ⟨i + 1, ?_, Nat.le_refl _, ?_, fun j hj => ?_⟩
        · have hl' : n.toNat = (bornTo (edsTo cs chs (chs.length + 1)) (i + 1)).length := by omega
          rw [eb, hl', List.getElem?_append_right (Nat.le_refl _), Nat.sub_self]
          rfl
        · rw [numE_succ e]
          show n < numE cs chs i + 1
          omega
        · rw [en]
          exact numE_mono (by omega)
      | drop _ => exact absurd (show ("drop" : Str) = "add" from ka) (by decide +kernel)
      | rename _ _ => exact absurd (show ("rename" : Str) = "add" from ka) (by decide +kernel)
      | dflt _ _ => exact absurd (show ("default" : Str) = "add" from ka) (by decide +kernel)
      | great _ _ _ => exact absurd (show ("greatest" : Str) = "add" from ka) (by decide +kernel)
      | fill _ _ => exact absurd (show ("fill" : Str) = "add" from ka) (by decide +kernel)
theorem numE_all : numE cs chs chs.length = (atC cs chs).2 := by
  show (atC cs (chs.take chs.length)).2 = _
  rw [List.take_length]
theorem born_at (o : HistOk cs chs) {n : Int} (h0 : 0 ≤ n) (h1 : n < (atC cs chs).2) : ∃ b : Nat, (bornH cs chs)[n.toNat]? = some ((b : Nat) : Int) ∧ b ≤ chs.length ∧ BornIs cs chs n b := by
  obtain ⟨b, h2, h3, h4⟩ := born_to o chs.length (Nat.le_refl _) n h0 (by rw [numE_all]; exact h1)
  refine ⟨b, ?_, h3, h4⟩
  unfold bornH bornOf
  rw [edsTo_len]
  exact h2
/-- a number is there at its birth -/
theorem born_there (o : HistOk cs chs) {n : Int} {b : Nat} (h0 : 0 ≤ n) (hb : b ≤ chs.length) (h : BornIs cs chs n b) : ∃ c, colE cs chs b n = some c := by
  cases b with
  | zero =>
    have h1 : n < (cs.length : Int) := h.1
    have hlt : n.toNat < cs.length := by omega
    have hg : cs[n.toNat]? = some (cs[n.toNat]'hlt) := List.getElem?_eq_getElem hlt
    have hp := o.pl _ _ hg
    refine ⟨cs[n.toNat]'hlt, ?_⟩
    have := asc_find (asc_at o 0 (Nat.zero_le _)) (List.mem_of_getElem? hg)
    rw [hp, show ((n.toNat : Nat) : Int) = n by omega] at this
    exact this
  | succ i =>
    obtain ⟨ch, e⟩ : ∃ ch, chs[i]? = some ch := ⟨_, List.getElem?_eq_getElem (by omega)⟩
    have h1 := h.1
    have h2 := h.2 i (Nat.lt_succ_self i)
    rw [numE_succ e] at h1
    cases ch with
    | add nm gr d =>
      have h1 : n < numE cs chs i + 1 := h1
      have en : n = numE cs chs i := by omega
      refine ⟨⟨nm, gr, d, numE cs chs i⟩, ?_⟩
      have hm : (⟨nm, gr, d, numE cs chs i⟩ : Col) ∈ colsE cs chs (i + 1) := by
        rw [colsE_succ e]
        exact List.mem_append_right _ (List.mem_singleton.mpr rfl)
      have := asc_find (asc_at o (i + 1) hb) hm
      show (colsE cs chs (i + 1)).find? (isK n) = _
      rw [en]
      exact this
    | _ => exact absurd h1 (by show ¬ n < numE cs chs i; omega)
/-- what stands in the list of drops for the number n behind so many editions -/
def DropIs (cs : List Col) (chs : List Ch) (n : Int) (i : Nat) (v : V) : Prop := (v = .non ∧ ∀ j, j < i → ¬ (∃ c, colE cs chs j n = some c) ∨ ∃ c, colE cs chs (j + 1) n = some c) ∨
  ∃ d : Nat, v = .int (d : Nat) ∧ 1 ≤ d ∧ d ≤ i ∧ (∃ c, colE cs chs (d - 1) n = some c) ∧ colE cs chs d n = none
theorem dropFold {next : List Col} {i : Nat} {n : Int} (h0 : 0 ≤ n) : ∀ (cl : List Col) (d : List V), (∀ c ∈ cl, 0 ≤ c.num) → n.toNat < d.length → (cl.foldl (dropStep next i) d)[n.toNat]? = if (∃ c ∈ cl, c.num = n) ∧ next.find? (isK n) = none then some (.int (i : Nat)) else d[n.toNat]?
  | [], d, _, _ => by
    rw [if_neg]
    · rfl
    · rintro ⟨⟨c, h, _⟩, _⟩
      cases h
  | c :: cl, d, hp, hl => by
    show (cl.foldl (dropStep next i) (dropStep next i d c))[n.toNat]? = _
    have hl2 : n.toNat < (dropStep next i d c).length := by
      unfold dropStep
      split
      · rw [List.length_set]; exact hl
      · exact hl
    rw [dropFold h0 cl _ (fun c' hc' => hp c' (List.mem_cons_of_mem _ hc')) hl2]
    have hc0 := hp c List.mem_cons_self
    by_cases h1 : (∃ c ∈ cl, c.num = n) ∧ next.find? (isK n) = none
    · rw [if_pos h1, if_pos ⟨by obtain ⟨⟨c', h2, h3⟩, _⟩ := h1; exact ⟨c', List.mem_cons_of_mem _ h2, h3⟩, h1.2⟩]
    · rw [if_neg h1]
      by_cases h2 : c.num = n
      · by_cases h3 : next.find? (isK n) = none
        · rw [if_pos ⟨⟨c, List.mem_cons_self, h2⟩, h3⟩]
          have hg : gone next c = true := by
            unfold gone
            rw [h2, h3]
            rfl
          unfold dropStep
          rw [if_pos hg, h2, List.getElem?_set_self hl]
        · rw [if_neg fun q => h3 q.2]
          have hg : ¬ gone next c = true := by
            unfold gone
            rw [h2]
            intro q
            exact h3 (Option.isNone_iff_eq_none.mp q)
          unfold dropStep
          rw [if_neg hg]
      · have : ¬ ((∃ c' ∈ c :: cl, c'.num = n) ∧ next.find? (isK n) = none) := by
          rintro ⟨⟨c', h3, h4⟩, h5⟩
          rcases List.mem_cons.mp h3 with rfl | h3
          · exact h2 h4
          · exact h1 ⟨⟨c', h3, h4⟩, h5⟩
        rw [if_neg this]
        unfold dropStep
        split
        · rw [List.getElem?_set_ne (by omega)]
        · rfl
theorem drop_to (o : HistOk cs chs) {n : Int} {m : Nat} (h0 : 0 ≤ n) (hm : n.toNat < m) : ∀ i, i ≤ chs.length → ∃ v, (dropTo (edsTo cs chs (chs.length + 1)) m i)[n.toNat]? = some v ∧ DropIs cs chs n i v
  | 0, _ => ⟨.non, by show (List.replicate m V.non)[n.toNat]? = _; rw [List.getElem?_replicate, if_pos hm], .inl ⟨rfl, fun j hj => by omega⟩⟩
  | i + 1, hi => by
    obtain ⟨v, h1, h2⟩ := drop_to o h0 hm i (by omega)
    have e : dropTo (edsTo cs chs (chs.length + 1)) m (i + 1) = (colsE cs chs i).foldl (dropStep (colsE cs chs (i + 1)) (i + 1)) (dropTo (edsTo cs chs (chs.length + 1)) m i) := by
      show (List.getD (edsTo cs chs (chs.length + 1)) i []).foldl (dropStep (List.getD (edsTo cs chs (chs.length + 1)) (i + 1) []) (i + 1)) _ = _
      rw [List.getD_eq_getElem?_getD, List.getD_eq_getElem?_getD, edsTo_get (by omega), edsTo_get (by omega)]
      rfl
    have gd := o.f.good o.g i (by omega)
    have f := dropFold (next := colsE cs chs (i + 1)) (i := i + 1) h0 (colsE cs chs i) (dropTo (edsTo cs chs (chs.length + 1)) m i) (fun c hc => (gd.ok c hc).1.nu) (by rw [dropTo_len]; exact hm)
    rw [e, f]
    split
    · rename_i q
      obtain ⟨⟨c, h3, h4⟩, h5⟩ := q
      refine ⟨_, rfl, .inr ⟨i + 1, rfl, by omega, Nat.le_refl _, ⟨c, ?_⟩, h5⟩⟩
      have := asc_find (asc_at o i (by omega)) h3
      rw [h4] at this
      exact this
    · rename_i q
      refine ⟨v, h1, ?_⟩
      rcases h2 with ⟨h3, h4⟩ | ⟨d, h3, h4, h5, h6⟩
      · refine .inl ⟨h3, fun j hj => ?_⟩
        by_cases hji : j < i
        · exact h4 j hji
        · obtain rfl : j = i := by omega
          cases hc : colE cs chs (j + 1) n with
          | some c => exact .inr ⟨c, rfl⟩
          | none =>
            refine .inl fun ⟨c, hc'⟩ => ?_
            obtain ⟨k1, k2⟩ := findK_mem hc'
            exact q ⟨⟨c, k1, k2⟩, hc⟩
      · exact .inr ⟨d, h3, h4, by omega, h6⟩
theorem drop_at (o : HistOk cs chs) {n : Int} (h0 : 0 ≤ n) (h1 : n < (atC cs chs).2) : ∃ v, (dropOf (edsTo cs chs (chs.length + 1)) (bornH cs chs).length)[n.toNat]? = some v ∧ DropIs cs chs n chs.length v := by
  have := o.born
  obtain ⟨v, h2, h3⟩ := drop_to o (m := (bornH cs chs).length) h0 (by omega) chs.length (Nat.le_refl _)
  refine ⟨v, ?_, h3⟩
  unfold dropOf
  rw [edsTo_len]
  exact h2
/-- the column with the number was dropped not behind an edition -/
def goneB (cs : List Col) (chs : List Ch) (n : Int) (e : Nat) : Bool := decide (n < numE cs chs e) && (colE cs chs e n).isNone
theorem DropIs.gone {n : Int} {v : V} (o : HistOk cs chs) (h0 : 0 ≤ n) (h1 : n < (atC cs chs).2) (h : DropIs cs chs n chs.length v) {e : Nat} (he : e ≤ chs.length) : goneB cs chs n e = match v with
    | .int d => decide (d ≤ (e : Nat))
    | _ => false := by
  obtain ⟨b, _, hb1, hb2⟩ := born_at o h0 h1
  rcases h with ⟨rfl, h2⟩ | ⟨d, rfl, h3, h4, h5, h6⟩
  · show goneB cs chs n e = false
    unfold goneB
    by_cases hn : n < numE cs chs e
    · have hbe : b ≤ e := by
        rcases Nat.lt_or_ge e b with q | q
        · have := hb2.2 e q
          omega
        · exact q
      have up : ∀ k, b + k ≤ chs.length → ∃ c, colE cs chs (b + k) n = some c := fun k => by
        induction k with
        | zero => exact fun _ => born_there o h0 hb1 hb2
        | succ k ih =>
          intro hk
          rcases h2 (b + k) (by omega) with q | q
          · exact absurd (ih (by omega)) q
          · exact q
      obtain ⟨c, hc⟩ := up (e - b) (by omega)
      rw [show b + (e - b) = e by omega] at hc
      rw [hc]
      exact Bool.and_false _
    · rw [decide_eq_false hn]
      rfl
  · show goneB cs chs n e = decide (((d : Nat) : Int) ≤ (e : Nat))
    obtain ⟨c, hc⟩ := h5
    have hn1 : n < numE cs chs (d - 1) := by
      obtain ⟨k1, k2⟩ := findK_mem hc
      have := ((o.f.good o.g (d - 1) (by omega)).ok c k1).2
      rw [← k2]
      exact this
    unfold goneB
    by_cases hde : d ≤ e
    · have hn : n < numE cs chs e := Int.lt_of_lt_of_le hn1 (numE_mono (by omega))
      have hg := gone_stays o h6 (Int.lt_of_lt_of_le hn1 (numE_mono (by omega))) (e - d) (by omega)
      rw [show d + (e - d) = e by omega] at hg
      rw [decide_eq_true hn, hg, decide_eq_true (by omega)]
      rfl
    · rw [decide_eq_false (by omega : ¬ ((d : Nat) : Int) ≤ (e : Nat))]
      by_cases hn : n < numE cs chs e
      · cases hg : colE cs chs e n with
        | some c => exact Bool.and_false _
        | none =>
          have hg2 := gone_stays o hg hn (d - 1 - e) (by omega)
          rw [show e + (d - 1 - e) = d - 1 by omega, hc] at hg2
          cases hg2
      · rw [decide_eq_false hn]
        rfl
end

/-! the edition at which a number is first there, told -/
section
variable {cs : List Col} {chs : List Ch}
def bornN (cs : List Col) (chs : List Ch) (n : Int) : Nat := match (bornH cs chs)[n.toNat]? with
  | some b => b.toNat
  | none => 0
theorem bornN_spec (o : HistOk cs chs) {n : Int} (h0 : 0 ≤ n) (h1 : n < (atC cs chs).2) : (bornH cs chs)[n.toNat]? = some ((bornN cs chs n : Nat) : Int) ∧ bornN cs chs n ≤ chs.length ∧ BornIs cs chs n (bornN cs chs n) := by
  obtain ⟨b, h2, h3, h4⟩ := born_at o h0 h1
  have e : bornN cs chs n = b := by
    unfold bornN
    rw [h2]
    exact Int.toNat_natCast b
  rw [e]
  exact ⟨h2, h3, h4⟩
end

/-! history.born(number) -/
def sp_Hist_born (K : PySem.W.Frag) : Sp := fun vs H Q _ => ∃ (h : Addr) (cs : List Col) (chs : List Ch) (n : Int), vs = [.ref h, .int n] ∧ HistAt K H h cs chs ∧ HistOk cs chs ∧ 0 ≤ n ∧ n < (atC cs chs).2 ∧ Q (.int (bornN cs chs n : Nat)) H
theorem ok_Hist_born (T : Tx K mg) : ∃ fd, FnOk P w K mg base CX0 3 (He.ma K (He.ga K "History") "born") fd ["self", "number"] (sp_Hist_born K) ∧ Binds K fd ["self", "number"] [] := by
  have C1 := ok_is_given (P := P) (w := w) (base := base) T
  refine mkMeth (fd_History_born T) sc_History_born (fun _ _ _ _ _ _ us hl => match us, hl with | [_, _], _ => rfl) (fun vs H Q E h => ?_) (fun cdv A outer s H vs Q E hr h => ?_)
  · obtain ⟨h, cs, chs, n, rfl, _⟩ := h
    rfl
  obtain ⟨h, cs, chs, n, rfl, hq, o, h0, h1, k⟩ := h
  obtain ⟨dx, e, c, b, d, es, ts, hh, he, hE, hc, hC, hb, hd⟩ := id hq
  obtain ⟨hb1, hb2, hb3⟩ := bornN_spec o h0 h1
  refine ⟨_, (pss_cons (ps_if (pt_not (pt_val (pcall C1 hr (pa_cons (pv 0) (pa_cons (pv 1) pa_nil))))) (pss_one ps_never) pss_nil)
        (pss_one (ps_ret (pe_ix ix_list (pe_fld (pv 0) rfl) (pv 1) (fun _ _ => rfl))))), ?_⟩
  refine ⟨_, rfl, _, rfl, h, cs, chs, n, rfl, hq, o, _, rfl, ?_⟩
  rw [decide_eq_true h0, decide_eq_true h1]
  refine iteF (nxt ⟨_, rfl, h, _, dx, _, _, rfl, hh, cl_History T, na_History__births T, histFs_births, _, rfl, b, _, n, _, rfl, rfl, sqL_of hb, ix_int h0 (by rw [List.getElem?_map, hb1]; rfl), k⟩)
/-! history.dropped(number) -/
def sp_Hist_dropped (K : PySem.W.Frag) : Sp := fun vs H Q _ => ∃ (h : Addr) (cs : List Col) (chs : List Ch) (n : Int), vs = [.ref h, .int n] ∧ HistAt K H h cs chs ∧ HistOk cs chs ∧ 0 ≤ n ∧ n < (atC cs chs).2 ∧ ∀ v, DropIs cs chs n chs.length v → Q v H
theorem ok_Hist_dropped (T : Tx K mg) : ∃ fd, FnOk P w K mg base CX0 3 (He.ma K (He.ga K "History") "dropped") fd ["self", "number"] (sp_Hist_dropped K) ∧ Binds K fd ["self", "number"] [] := by
  have C1 := ok_is_given (P := P) (w := w) (base := base) T
  refine mkMeth (fd_History_dropped T) sc_History_dropped (fun _ _ _ _ _ _ us hl => match us, hl with | [_, _], _ => rfl) (fun vs H Q E h => ?_) (fun cdv A outer s H vs Q E hr h => ?_)
  · obtain ⟨h, cs, chs, n, rfl, _⟩ := h
    rfl
  obtain ⟨h, cs, chs, n, rfl, hq, o, h0, h1, k⟩ := h
  obtain ⟨dx, e, c, b, d, es, ts, hh, he, hE, hc, hC, hb, hd⟩ := id hq
  obtain ⟨v, hv1, hv2⟩ := drop_at o h0 h1
  refine ⟨_, (pss_cons (ps_if (pt_not (pt_val (pcall C1 hr (pa_cons (pv 0) (pa_cons (pv 1) pa_nil))))) (pss_one ps_never) pss_nil)
        (pss_one (ps_ret (pe_ix ix_list (pe_fld (pv 0) rfl) (pv 1) (fun _ _ => rfl))))), ?_⟩
  refine ⟨_, rfl, _, rfl, h, cs, chs, n, rfl, hq, o, _, rfl, ?_⟩
  rw [decide_eq_true h0, decide_eq_true h1]
  refine iteF (nxt ⟨_, rfl, h, _, dx, _, _, rfl, hh, cl_History T, na_History__drops T, histFs_drops, _, rfl, d, _, n, v, rfl, rfl, sqL_of hd, ix_int h0 hv1, k v hv2⟩)
/-! what is behind an edition -/
theorem Chs.drop {K : PySem.W.Frag} {H : Hp} : ∀ {as : List Addr} {cs : List Ch} (m : Nat), Chs K H as cs → Chs K H (as.drop m) (cs.drop m)
  | _, _, 0, h => h
  | _, _, _ + 1, .nil => .nil
  | _, _, m + 1, .cons _ t => t.drop m

/-! slices that begin at the front, that end at the end -/
theorem cutV_to {xs : List V} {m : Nat} (h : m ≤ xs.length) : cutV xs none (some (m : Nat)) = xs.take m := by
  have e : HT.sIx xs.length xs.length (some ((m : Nat) : Int)) = m := by
    unfold HT.sIx
    simp
    split <;> omega
  unfold cutV
  rw [e]
  have e2 : HT.sIx xs.length 0 none = 0 := rfl
  rw [e2]
  rfl
theorem cutV_from {xs : List V} {m : Nat} (h : m ≤ xs.length) : cutV xs (some (m : Nat)) none = xs.drop m := by
  have e : HT.sIx xs.length 0 (some ((m : Nat) : Int)) = m := by
    unfold HT.sIx
    simp
    split <;> omega
  unfold cutV
  rw [e]
  have e2 : HT.sIx xs.length xs.length none = xs.length := rfl
  rw [e2]
  exact List.take_of_length_le (by rw [List.length_drop]; exact Nat.le_refl _)

/-! history.behind(edition) -/
def sp_Hist_behind (K : PySem.W.Frag) : Sp := fun vs H Q _ => ∃ (h : Addr) (cs : List Col) (chs : List Ch) (m : Nat), vs = [.ref h, .int (m : Nat)] ∧ HistAt K H h cs chs ∧ chs.length ≤ 1000 ∧ m ≤ chs.length ∧
  ∀ (l : Addr) (ts : List Addr) (H' : Hp), H l = none → Same H H' → H' l = some (.lst (ts.map V.ref)) → Chs K H' ts (chs.drop m) → Q (.ref l) H'
theorem ok_Hist_behind (T : Tx K mg) : ∃ fd, FnOk P w K mg base CX0 4 (He.ma K (He.ga K "History") "behind") fd ["self", "edition"] (sp_Hist_behind K) ∧ Binds K fd ["self", "edition"] [] := by
  have C1 := ok_is_edition (P := P) (w := w) (base := base) T
  refine mkMeth (fd_History_behind T) sc_History_behind (fun _ _ _ _ _ _ us hl => match us, hl with | [_, _], _ => rfl) (fun vs H Q E h => ?_) (fun cdv A outer s H vs Q E hr h => ?_)
  · obtain ⟨h, cs, chs, m, rfl, _⟩ := h
    rfl
  obtain ⟨h, cs, chs, m, rfl, hq, few, hm, k⟩ := h
  obtain ⟨dx, e, c, b, d, es, ts, hh, he, hE, hc, hC, hb, hd⟩ := id hq
  refine ⟨_, (pss_cons (ps_if (pt_not (pt_val (pcall C1 hr (pa_cons (pv 0) (pa_cons (pv 1) pa_nil))))) (pss_one ps_never) pss_nil)
        (pss_one (ps_ret (pe_slice sl_list (pe_fld (pv 0) rfl) (po_some (pv 1)) po_none)))), ?_⟩
  refine ⟨_, rfl, _, rfl, h, cs, chs, _, _, rfl, hq, few, .base (.int _), _, rfl, ?_⟩
  rw [isEd_nat' hm]
  refine iteF (nxt ⟨_, rfl, h, _, dx, _, _, rfl, hh, cl_History T, na_History__changes T, histFs_changes, _, rfl, _, rfl, c, _, rfl, sqL_of hc, fun l nl => ?_⟩)
  have hl := hC.len
  rw [cutV_from (by rw [List.length_map]; omega), ← List.map_drop]
  exact k l (ts.drop m) _ nl (same_new nl) upd_same ((hC.drop m).keep (same_new nl))
/-! _law_pool -/
def sp_pool (K : PySem.W.Frag) : Sp := fun vs H Q _ => ∃ (a : Addr) (ns : List Int) (k : Int), vs = [.ref a, .int k] ∧ SqL K H a (ns.map V.int) ∧ 0 ≤ k ∧ k ≤ 1000 ∧
  ∀ (p : Addr) (H' : Hp) (z0 z1 : Int), H p = none → Same H H' → H' p = some (.lst [.int z0, .int z1]) → Q (.ref p) H'
theorem ok_pool (T : Tx K mg) : Callee P w K mg base CX0 1 "_law_pool" ["_law_script", "_law_k"] [] (sp_pool K) := by
  refine mkCallee (fd__law_pool T) (mg__law_pool T) sc__law_pool (fun _ _ _ _ _ _ us hl => match us, hl with | [_, _], _ => rfl) (fun vs H Q E h => ?_) (fun cdv A outer s H vs Q E hr h => ?_)
  · obtain ⟨a, ns, k, rfl, _⟩ := h
    rfl
  · obtain ⟨a, ns, k, rfl, hs, k0, k1, kk⟩ := h
    have gi : mg "int" = none := fr_int T
    refine ⟨_, pss_cons (ps_set (i := 2) sc__law_pool.nd rfl (Or.inl rfl) (pe_ifExp (pt_cmpR op_lt (pv 1) (pe_callB call_len (by rfl) (fr_len T) PySem.boot_len (pa_cons (pv 0) pa_nil)) (nomark _))
        (pe_callB (call_max2 rfl) (by rfl) (fr_max T) (by decide +kernel) (pa_cons (pe_callTy call_int1 (by rfl) gi (by decide +kernel) (pa_cons (pe_ix ix_list (pv 0) (pv 1) (fun _ _ => rfl)) pa_nil))
          (pa_cons (pe_callTy call_int1 (by rfl) gi (by decide +kernel) (pa_cons (pe_op op_sub (pe_un un_neg pe_int) (pe_ix ix_list (pv 0) (pv 1) (fun _ _ => rfl))) pa_nil)) pa_nil))) pe_int))
      (pss_cons (ps_set (i := 3) sc__law_pool.nd rfl (Or.inl rfl) (pe_op op_add (pe_op op_modN (pe_callTy call_int1 (by rfl) gi (by decide +kernel) (pa_cons (pe_op op_mul (pe_op op_add (pe_op op_modN (pe_callTy call_int1 (by rfl) gi (by decide +kernel) (pa_cons (pv 2) pa_nil)) pe_int)
        (pe_op op_mul pe_int (pe_op op_add (pv 1) pe_int))) pe_int) pa_nil)) pe_int) pe_int))
      (pss_one (ps_ret (pe_lst (pa_cons (pe_op op_mul (pv 2) (pe_callTy call_int1 (by rfl) gi (by decide +kernel) (pa_cons (pe_cmpR op_ge (pv 2) (pe_op op_pow pe_int pe_int) (nomark _)) pa_nil)))
        (pa_cons (pe_op op_modN (pe_callTy call_int1 (by rfl) gi (by decide +kernel) (pa_cons (pe_op op_mul (pv 3) (pv 3)) pa_nil)) pe_int) pa_nil)))))), ?_⟩
    refine q_asgI (fun R r => ?_) fun z => ?_
    · refine ⟨_, rfl, _, rfl, _, (ns.map V.int).length, rfl, .inl ⟨_, hs, rfl⟩, _, _, rfl, rfl, _, rfl, ?_⟩
      by_cases hk : k < ((ns.map V.int).length : Int)
      · rw [decide_eq_true hk]
        obtain ⟨j, rfl⟩ : ∃ j : Nat, k = (j : Int) := ⟨k.toNat, by omega⟩
        have hj : j < ns.length := by
          rw [List.length_map] at hk
          omega
        have hx : (ns.map V.int)[j]? = some (V.int ns[j]) := by
          rw [List.getElem?_map, List.getElem?_eq_getElem hj]
          rfl
        refine iteT ⟨_, rfl, _, rfl, a, _, _, _, rfl, rfl, hs, at_of (j := j) rfl hx, .inl ⟨_, rfl, _, rfl, _, rfl, _, rfl, a, _, _, _, rfl, rfl, hs, at_of (j := j) rfl hx, _, _, rfl, rfl, .inl ⟨_, rfl, _, _, rfl, r _⟩⟩⟩
      · rw [decide_eq_false hk]
        exact iteF (r 7)
    · refine ⟨_, rfl, .inl ⟨_, rfl, _, _, rfl, rfl, (show (2147483629 : Int) ≠ 0 by decide), _, rfl, _, _, rfl, rfl, _, _, rfl, rfl, .inl ⟨by decide, by decide⟩, _, _, rfl, rfl, _, _, rfl, rfl, .inr ⟨by decide, by decide⟩, .inl ⟨_, rfl, _, _, rfl, rfl, (show (2147483629 : Int) ≠ 0 by decide), _, _, rfl, rfl, ?_⟩⟩⟩
      have m0 := mod_lo (i := (z.fmod 2147483629 + 104729 * (k + 1)) * 48271) (j := 2147483629) (by decide)
      have m1 := mod_hi (i := (z.fmod 2147483629 + 104729 * (k + 1)) * 48271) (j := 2147483629) (by decide)
      refine ⟨_, rfl, _, rfl, _, _, rfl, rfl, ⟨by decide, by decide, by decide⟩, _, _, rfl, rfl, .inr ⟨_, rfl, _, _, rfl, rfl, ?_, _, rfl, _, rfl, _, _, rfl, rfl, .inl ⟨by omega, by omega⟩, .inl ⟨_, rfl, _, _, rfl, rfl, (show (2147483629 : Int) ≠ 0 by decide), (by show 2 ≤ sizeLine; decide), fun p hp => ?_⟩⟩⟩
      · refine .inr ?_
        split
        · exact ⟨by decide, by decide⟩
        · exact ⟨by decide, by decide⟩
      · exact kk p _ _ _ hp (same_new hp) upd_same
/-! _law_draw -/
def sp_draw : Sp := fun vs H Q _ => ∃ (a : Addr) (z0 z1 m : Int), vs = [.ref a, .int m] ∧ H a = some (.lst [.int z0, .int z1]) ∧ 0 < m ∧ m < 1073741824 ∧
  ∀ r y0 y1 : Int, 0 ≤ r → r < m → Q (.int r) (upd H a (.lst [.int y0, .int y1]))
theorem ok_draw (T : Tx K mg) : Callee P w K mg base CX0 1 "_law_draw" ["_law_pool_here", "_law_many"] [] sp_draw := by
  refine mkCallee (fd__law_draw T) (mg__law_draw T) sc__law_draw (fun _ _ _ _ _ _ us hl => match us, hl with | [_, _], _ => rfl) (fun vs H Q E h => ?_) (fun cdv A outer s H vs Q E hr h => ?_)
  · obtain ⟨a, z0, z1, m, rfl, _⟩ := h
    rfl
  · obtain ⟨a, z0, z1, m, rfl, ha, hm, hm2, k⟩ := h
    have gi : mg "int" = none := fr_int T
    refine ⟨_, pss_cons (ps_if (pt_cmpR op_gt (pe_ix ix_list (pv 0) pe_int (fun _ _ => rfl)) pe_int (nomark _))
        (pss_cons (ps_set (i := 2) sc__law_draw.nd rfl (Or.inl rfl) (pe_op op_modN (pe_callTy call_int1 (by rfl) gi (by decide +kernel) (pa_cons (pe_ix ix_list (pv 0) pe_int (fun _ _ => rfl)) pa_nil)) (pv 1)))
        (pss_cons (ps_asg (pe_op op_fdivN (pe_ix ix_list (pv 0) pe_int (fun _ _ => rfl)) (pv 1)) (pg_sub (pv 0) pe_int set_list))
        (pss_one (ps_ret (pv 2))))) pss_nil)
      (pss_cons (ps_asg (pe_op op_modN (pe_callTy call_int1 (by rfl) gi (by decide +kernel) (pa_cons (pe_op op_add (pe_op op_mul (pe_ix ix_list (pv 0) pe_int (fun _ _ => rfl)) pe_int) pe_int) pa_nil)) pe_int) (pg_sub (pv 0) pe_int set_list))
      (pss_one (ps_ret (pe_op op_modN (pe_callTy call_int1 (by rfl) gi (by decide +kernel) (pa_cons (pe_op op_fdivN (pe_op op_modN (pe_callTy call_int1 (by rfl) gi (by decide +kernel)
        (pa_cons (pe_op op_mul (pe_ix ix_list (pv 0) pe_int (fun _ _ => rfl)) (pe_ix ix_list (pv 0) pe_int (fun _ _ => rfl))) pa_nil)) pe_int) pe_int) pa_nil)) (pv 1))))), ?_⟩
    have i0 : atI [V.int z0, V.int z1] 0 = some (V.int z0) := rfl
    have i1 : atI [V.int z0, V.int z1] 1 = some (V.int z1) := rfl
    refine ⟨_, rfl, a, _, _, _, rfl, rfl, sqL_of ha, i0, _, _, rfl, rfl, _, rfl, ?_⟩
    by_cases hz : 0 < z0
    · rw [decide_eq_true hz]
      refine iteT ⟨_, rfl, a, _, _, _, rfl, rfl, sqL_of ha, i0, .inl ⟨_, rfl, _, rfl, _, _, rfl, rfl, (by omega), ?_⟩⟩
      refine ⟨_, rfl, a, _, _, _, rfl, rfl, sqL_of ha, i0, _, rfl, _, _, rfl, rfl, ⟨by omega, by omega⟩, _, rfl, a, _, 0, 0, rfl, rfl, ha, rfl, ?_⟩
      exact ⟨_, rfl, k _ _ _ (mod_lo hm) (mod_hi hm)⟩
    · rw [decide_eq_false hz]
      refine iteF ?_
      refine ⟨_, rfl, a, _, _, _, rfl, rfl, sqL_of ha, i1, _, _, rfl, rfl, .inr ⟨by decide, by decide⟩, _, _, rfl, rfl, .inl ⟨_, rfl, _, _, rfl, rfl, (show (2147483647 : Int) ≠ 0 by decide), ?_⟩⟩
      refine ⟨_, rfl, a, _, 1, 1, rfl, rfl, ha, rfl, ?_⟩
      have hy0 : 0 ≤ (z1 * 48271 + 11).fmod 2147483647 := mod_lo (by decide)
      have hy1 : (z1 * 48271 + 11).fmod 2147483647 < 2147483647 := mod_hi (by decide)
      have u1 : upd H a (.lst ([V.int z0, V.int z1].set 1 (.int ((z1 * 48271 + 11).fmod 2147483647)))) a = some (.lst [.int z0, .int ((z1 * 48271 + 11).fmod 2147483647)]) := upd_same
      have j1 : atI [V.int z0, V.int ((z1 * 48271 + 11).fmod 2147483647)] 1 = some (V.int ((z1 * 48271 + 11).fmod 2147483647)) := rfl
      refine ⟨_, rfl, a, _, _, _, rfl, rfl, sqL_of u1, j1, _, rfl, a, _, _, _, rfl, rfl, sqL_of u1, j1, _, _, rfl, rfl, .inl ⟨by omega, by omega⟩, .inl ⟨_, rfl, _, _, rfl, rfl, (show (2147483629 : Int) ≠ 0 by decide), _, _, rfl, rfl, ⟨by decide, by decide⟩, .inl ⟨_, rfl, _, rfl, _, _, rfl, rfl, (by omega), ?_⟩⟩⟩
      exact k _ _ _ (mod_lo hm) (mod_hi hm)
/-! _law_pick -/
def sp_pick : Sp := fun vs H Q _ => ∃ (a b : Addr) (z0 z1 : Int) (xs : List V), vs = [.ref a, .ref b] ∧ H a = some (.lst [.int z0, .int z1]) ∧ H b = some (.lst xs) ∧ b ≠ a ∧ 0 < xs.length ∧ xs.length < 1000000 ∧
  ∀ (x : V) (y0 y1 : Int), x ∈ xs → Q x (upd H a (.lst [.int y0, .int y1]))
theorem ok_pick (T : Tx K mg) : Callee P w K mg base CX0 2 "_law_pick" ["_law_pool_here", "_law_row"] [] sp_pick := by
  have C1 := ok_draw (P := P) (w := w) (base := base) T
  refine mkCallee (fd__law_pick T) (mg__law_pick T) sc__law_pick (fun _ _ _ _ _ _ us hl => match us, hl with | [_, _], _ => rfl) (fun vs H Q E h => ?_) (fun cdv A outer s H vs Q E hr h => ?_)
  · obtain ⟨a, b, z0, z1, xs, rfl, _⟩ := h
    rfl
  · obtain ⟨a, b, z0, z1, xs, rfl, ha, hb, nb, h0, h1, k⟩ := h
    have gl : mg "len" = none := fr_len T
    refine ⟨_, pss_one (ps_ret (pe_ix ix_list (pv 1) (pcall C1 hr (pa_cons (pv 0) (pa_cons (pe_callB call_len_seq (by rfl) gl PySem.boot_len (pa_cons (pv 1) pa_nil)) pa_nil))) (fun _ _ => rfl))), ?_⟩
    refine ⟨_, rfl, _, rfl, _, rfl, b, xs, rfl, .inl (sqL_of hb), a, z0, z1, _, rfl, ha, (by omega), (by omega), fun r y0 y1 hr0 hr1 => ?_⟩
    obtain ⟨j, rfl⟩ : ∃ j : Nat, r = (j : Int) := ⟨r.toNat, by omega⟩
    have hj : j < xs.length := by omega
    refine ⟨b, xs, _, xs[j], rfl, rfl, sqL_of (by rw [upd_ne nb]; exact hb), at_of (j := j) rfl (List.getElem?_eq_getElem hj), ?_⟩
    exact k _ _ _ (List.getElem_mem hj)
/-! values to a greatest -/
theorem valsTo_in {g : Int} {v : V} (h : v ∈ valsTo g) : isIn g v = true := by
  unfold valsTo at h
  rcases List.mem_cons.mp h with rfl | h
  · rfl
  · unfold rgV at h
    obtain ⟨i, hi, rfl⟩ := List.mem_map.mp h
    rw [List.mem_range] at hi
    show (decide ((0 : Int) ≤ 0 + (i : Int)) && decide ((0 : Int) + (i : Int) ≤ g)) = true
    rw [Bool.and_eq_true]
    exact ⟨decide_eq_true (by omega), decide_eq_true (by omega)⟩
theorem in_vals {g : Int} {v : V} (h : isIn g v = true) : v ∈ valsTo g := by
  cases v with
  | non => exact List.mem_cons_self
  | int u =>
    have h : (decide (0 ≤ u) && decide (u ≤ g)) = true := h
    rw [Bool.and_eq_true] at h
    have g0 := of_decide_eq_true h.1
    have g1 := of_decide_eq_true h.2
    refine List.mem_cons_of_mem _ (List.mem_map.mpr ⟨u.toNat, List.mem_range.mpr (by omega), ?_⟩)
    rw [show (0 : Int) + (u.toNat : Nat) = u by omega]
  | _ => cases h

/-! _law_value -/
def sp_value (m0 : Int) : Sp := fun vs H Q _ => ∃ (p : Addr) (z0 z1 m : Int), vs = [.ref p, .int m] ∧ H p = some (.lst [.int z0, .int z1]) ∧ 0 ≤ m ∧ m ≤ m0 ∧
  ∀ (v : V) (y0 y1 : Int) (H' : Hp), isIn m v = true → But p H H' → H' p = some (.lst [.int y0, .int y1]) → Q v H'
theorem ok_value (T : Tx K mg) : Callee P w K mg base CX0 3 "_law_value" ["_law_pool_here", "_law_most"] [] (sp_value 1000) := by
  have C1 := ok_pick (P := P) (w := w) (base := base) T
  refine mkCallee (fd__law_value T) (mg__law_value T) sc__law_value (fun _ _ _ _ _ _ us hl => match us, hl with | [_, _], _ => rfl) (fun vs H Q E h => ?_) (fun cdv A outer s H vs Q E hr h => ?_)
  · obtain ⟨p, z0, z1, m, rfl, _⟩ := h
    rfl
  · obtain ⟨p, z0, z1, m, rfl, hp, h0, h1, k⟩ := h
    refine ⟨_, pss_one (ps_ret (pcall C1 hr (pa_cons (pv 0) (pa_cons (pe_op op_cat (pe_lst (pa_cons pe_non pa_nil)) (pe_listRg rfl (by rfl) (fr_list T) (prg_1 (by rfl) (fr_range T) (pe_op op_add (pv 1) pe_int)))) pa_nil)))), ?_⟩
    refine ⟨_, rfl, (by show 1 ≤ sizeLine; decide), fun l nl => ⟨_, rfl, _, _, rfl, rfl, _, rfl, .of_le (by omega) (by omega) (by omega) (by omega), fun q nq => ?_⟩⟩
    refine ⟨l, q, _, _, rfl, rfl, same_new nq _ _ upd_same, upd_same, ?_, fun c nc => ?_⟩
    · rw [rgV_length]
      have e : sizeLine = 16777216 := by decide
      rw [e]
      show 1 + (m + 1 - 0).toNat ≤ _
      omega
    have s3 := ((same_new (o := .lst [.non]) nl).trans (same_new (o := .lst (rgV 0 (m + 1))) nq)).trans (same_new (o := .lst ([V.non] ++ rgV 0 (m + 1))) nc)
    have hp3 := s3 _ _ hp
    have ncp : c ≠ p := fun e => by
      have h2 := ((same_new (o := .lst [.non]) nl).trans (same_new (o := .lst (rgV 0 (m + 1))) nq)) _ _ hp
      rw [← e, nc] at h2
      cases h2
    refine ⟨p, c, z0, z1, valsTo m, rfl, hp3, upd_same, ncp, ?_, ?_, fun v y0 y1 hv => k v y0 y1 _ (valsTo_in hv) ((But.of s3).trans But.mut) upd_same⟩
    · unfold valsTo
      rw [List.length_cons]
      omega
    · unfold valsTo
      rw [List.length_cons, rgV_length]
      omega
/-! what a law makes of a value above -/
def cutL (g : Int) (way : Str) (v : V) : V := match v with
  | .int j => if g < j then (if way = "cut" then .int g else if way = "none" then .non else .str "barred") else .int j
  | v => v

/-! _law_cut -/
theorem merge3 (x y z : V) : mergeK [] [(Sum.inr "cut", x), (Sum.inr "none", y), (Sum.inr "refuse", z)] = ([(Sum.inr "cut", x), (Sum.inr "none", y), (Sum.inr "refuse", z)] : List (Key × V)) := by
  have h1 : ¬ ((Sum.inr "cut" : Key) = (Sum.inr "none" : Key)) := by decide +kernel
  have h2 : ¬ ((Sum.inr "cut" : Key) = (Sum.inr "refuse" : Key)) := by decide +kernel
  have h3 : ¬ ((Sum.inr "none" : Key) = (Sum.inr "refuse" : Key)) := by decide +kernel
  simp [mergeK, putK, h1, h2, h3]
theorem val3 {x y z : V} {way : Str} (hw : isWy way = true) : valV ([(Sum.inr "cut", x), (Sum.inr "none", y), (Sum.inr "refuse", z)] : List (Key × V)) (Sum.inr way) = some (if way = "cut" then x else if way = "none" then y else z) := by
  have h1 : ¬ ((Sum.inr "cut" : Key) = (Sum.inr "none" : Key)) := by decide +kernel
  have h2 : ¬ ((Sum.inr "cut" : Key) = (Sum.inr "refuse" : Key)) := by decide +kernel
  have h3 : ¬ ((Sum.inr "none" : Key) = (Sum.inr "refuse" : Key)) := by decide +kernel
  have g1 : ¬ (("none" : Str) = "cut") := by decide +kernel
  have g2 : ¬ (("refuse" : Str) = "cut") := by decide +kernel
  have g3 : ¬ (("refuse" : Str) = "none") := by decide +kernel
  have h' : (decide (way = "cut") || (decide (way = "none") || decide (way = "refuse"))) = true := hw
  rw [Bool.or_eq_true, Bool.or_eq_true, decide_eq_true_iff, decide_eq_true_iff, decide_eq_true_iff] at h'
  rcases h' with rfl | rfl | rfl
  · rw [if_pos rfl]
    exact valV_pos rfl
  · rw [if_neg g1, if_pos rfl]
    simp [valV, h1]
  · rw [if_neg g2, if_neg g3]
    simp [valV, h2, h3]
def sp_cut (K : PySem.W.Frag) : Sp := fun vs H Q _ => ∃ (t : Addr) (n way : Str) (g : Int) (v : V), vs = [v, .ref t] ∧ ChAt K H t (.great n g way) ∧ isWy way = true ∧ valOk v = true ∧ ∀ H', Same H H' → Q (cutL g way v) H'
theorem ok_cut (T : Tx K mg) : Callee P w K mg base CX0 1 "_law_cut" ["_law_value_here", "_law_change_here"] [] (sp_cut K) := by
  refine mkCallee (fd__law_cut T) (mg__law_cut T) sc__law_cut (fun _ _ _ _ _ _ us hl => match us, hl with | [_, _], _ => rfl) (fun vs H Q E h => ?_) (fun cdv A outer s H vs Q E hr h => ?_)
  · obtain ⟨t, n, way, g, v, rfl, _⟩ := h
    rfl
  · obtain ⟨t, n, way, g, v, rfl, ht, hw, hv, k⟩ := h
    have i2 : atI (Ch.great n g way).toV 2 = some (.int g) := rfl
    have i3 : atI (Ch.great n g way).toV 3 = some (.str way) := rfl
    refine ⟨_, pss_cons (ps_if (PW.pt (pw_or (pt_cmpR op_isN (pv 0) pe_non (nomark _)) (pw_or1 (pt_cmpR op_le (pv 0) (pe_ix ix_tup (pv 1) pe_int (fun _ _ => rfl)) (nomark _))))) (pss_one (ps_ret (pv 0))) pss_nil)
      (pss_one (ps_ret (pe_dget (hu_of hr) (pe_disp (pps_cons pe_str (pe_ix ix_tup (pv 1) pe_int (fun _ _ => rfl)) (pps_cons pe_str pe_non (pps_cons pe_str pe_str pps_nil))) (by rfl) (by rfl) (fun z => by cases z) (by decide)) (pe_ix ix_tup (pv 1) pe_int (fun _ _ => rfl)) (fun _ _ => rfl)))), ?_⟩
    refine ⟨_, rfl, rfl, _, rfl, ?_⟩
    cases v with
    | non => exact iteDT rfl (iteT ⟨_, rfl, k H (Same.refl _)⟩)
    | int j =>
      refine iteD (by intro z; cases z) ⟨_, rfl, _, rfl, t, _, 2, _, rfl, rfl, ht, i2, _, _, rfl, rfl, _, rfl, ?_⟩
      by_cases hj : j ≤ g
      · refine iteDT hj ⟨_, rfl, ?_⟩
        have e : cutL g way (.int j) = .int j := if_neg (by omega)
        rw [← e]
        exact k H (Same.refl _)
      · refine iteD hj (nxt ?_)
        have e : cutL g way (.int j) = (if way = "cut" then .int g else if way = "none" then .non else .str "barred") := if_pos (by omega)
        refine fun p np => ⟨_, rfl, t, _, 2, _, rfl, rfl, same_tup (same_new np) ht, i2, upd_same, [(Sum.inr "cut", V.int g), (Sum.inr "none", V.non), (Sum.inr "refuse", V.str "barred")], rfl, (by show 3 ≤ 15; decide), ?_⟩
        rw [upd_upd, merge3]
        have s2 : Same H (upd H p (.dK [(Sum.inr "cut", V.int g), (Sum.inr "none", V.non), (Sum.inr "refuse", V.str "barred")])) := same_new np
        refine ⟨_, rfl, t, _, 3, _, rfl, rfl, same_tup s2 ht, i3, p, cutL g way (.int j), rfl, ?_, k _ s2⟩
        rw [e, ← val3 hw]
        exact DGet.k (k := Sum.inr way) upd_same
    | _ => cases hv
/-! _law_col_then, where the change can be done; a law's column as a tuple -/
def LcAt (K : PySem.W.Frag) (H : Hp) (a : Addr) (c : Col) : Prop := H a = some (.tup [.str c.name, .int c.top, c.dflt, .int c.num])
theorem LcAt.keep {K : PySem.W.Frag} {H H' : Hp} {a : Addr} {c : Col} (s : Same H H') (h : LcAt K H a c) : LcAt K H' a c := s _ _ h
theorem cut_chg {c : Col} {n : Str} {g : Int} {way : Str} (hn : c.name = n) (hd : valOk c.dflt = true) (h : isIn g (chgV c.name (.great n g way) c.dflt) = true) : cutL g way c.dflt = chgV c.name (.great n g way) c.dflt := by
  unfold chgV at h ⊢
  rw [if_pos (show (Ch.great n g way).name = c.name from hn.symm)] at h ⊢
  cases e : c.dflt with
  | non => rfl
  | int j =>
    rw [e] at h
    have h : isIn g (if g < j then abv g way else .int j) = true := h
    show (if g < j then (if way = "cut" then V.int g else if way = "none" then .non else .str "barred") else .int j) = (if g < j then abv g way else .int j)
    by_cases q : g < j
    · rw [if_pos q] at h
      rw [if_pos q, if_pos q]
      unfold abv at h ⊢
      by_cases q1 : way = "cut"
      · rw [if_pos q1, if_pos q1]
      · rw [if_neg q1] at h
        rw [if_neg q1, if_neg q1]
        by_cases q2 : way = "none"
        · rw [if_pos q2, if_pos q2]
        · rw [if_neg q2] at h
          cases h
    · rw [if_neg q, if_neg q]
  | _ => rw [e] at hd; cases hd
def sp_col_then (K : PySem.W.Frag) : Sp := fun vs H Q _ => ∃ (a t : Addr) (c : Col) (ch : Ch), vs = [.ref a, .ref t] ∧ LcAt K H a c ∧ ChAt K H t ch ∧ c.name = ch.name ∧ ch.fits = true ∧ valOk c.dflt = true ∧ isIn (chgC c ch).top (chgC c ch).dflt = true ∧
  ∀ (a' : Addr) (H' : Hp), Same H H' → LcAt K H' a' (chgC c ch) → Q (.ref a') H'
theorem ok_col_then (T : Tx K mg) : Callee P w K mg base CX0 2 "_law_col_then" ["_law_col", "_law_change_here"] [] (sp_col_then K) := by
  have C1 := ok_cut (P := P) (w := w) (base := base) T
  refine mkCallee (fd__law_col_then T) (mg__law_col_then T) sc__law_col_then (fun _ _ _ _ _ _ us hl => match us, hl with | [_, _], _ => rfl) (fun vs H Q E h => ?_) (fun cdv A outer s H vs Q E hr h => ?_)
  · obtain ⟨a, t, c, ch, rfl, _⟩ := h
    rfl
  · obtain ⟨a, t, c, ch, rfl, ha, ht, hn, hf, hd, hdf, k⟩ := h
    have nd := sc__law_col_then.nd
    refine ⟨_, pss_cons (ps_asg (pv 0) (pg_tup rfl (pgs_cons (pg_name (i := 2) nd rfl (Or.inl rfl)) (pgs_cons (pg_name (i := 3) nd rfl (Or.inl rfl)) (pgs_cons (pg_name (i := 4) nd rfl (Or.inl rfl)) (pgs_cons (pg_name (i := 5) nd rfl (Or.inl rfl)) pgs_nil))))))
      (pss_cons (ps_if (pt_cmpR op_eq (pe_ix ix_tup (pv 1) pe_int (fun _ _ => rfl)) pe_str (nomark _)) (pss_one (ps_ret (pe_tup (pa_cons (pe_ix ix_tup (pv 1) pe_int (fun _ _ => rfl)) (pa_cons (pv 3) (pa_cons (pv 4) (pa_cons (pv 5) pa_nil))))))) pss_nil)
      (pss_cons (ps_if (pt_cmpR op_eq (pe_ix ix_tup (pv 1) pe_int (fun _ _ => rfl)) pe_str (nomark _)) (pss_one (ps_ret (pe_tup (pa_cons (pv 2) (pa_cons (pv 3) (pa_cons (pe_ix ix_tup (pv 1) pe_int (fun _ _ => rfl)) (pa_cons (pv 5) pa_nil))))))) pss_nil)
      (pss_cons (ps_if (pt_cmpR op_eq (pe_ix ix_tup (pv 1) pe_int (fun _ _ => rfl)) pe_str (nomark _)) (pss_one (ps_ret (pe_tup (pa_cons (pv 2) (pa_cons (pe_ix ix_tup (pv 1) pe_int (fun _ _ => rfl)) (pa_cons (pcall C1 hr (pa_cons (pv 4) (pa_cons (pv 1) pa_nil))) (pa_cons (pv 5) pa_nil))))))) pss_nil)
      (pss_one (ps_ret (pv 0)))))), ?_⟩
    refine ⟨_, rfl, a, _, rfl, sqT_of ha, rfl, _, _, rfl, _, _, rfl, _, _, rfl, _, _, rfl, rfl, ?_⟩
    have s4 : (4 : Nat) ≤ sizeLine := by decide
    refine ⟨_, rfl, t, _, 0, _, rfl, rfl, ht, ch.at0, rfl, _, rfl, ?_⟩
    cases ch with
    | rename n m =>
      have i2 : atI (Ch.rename n m).toV 2 = some (.str m) := rfl
      exact iteDT rfl ⟨_, rfl, t, _, 2, _, rfl, rfl, ht, i2, _, rfl, _, rfl, _, rfl, s4, fun p np => k p _ (same_new np) upd_same⟩
    | dflt n v =>
      have i2 : atI (Ch.dflt n v).toV 2 = some v := rfl
      exact iteD (nes (show ("default" : Str) ≠ "rename" by decide +kernel)) ⟨_, rfl, t, _, 0, _, rfl, rfl, ht, (Ch.dflt n v).at0, rfl, _, rfl, iteDT rfl ⟨_, rfl, _, rfl, _, rfl, t, _, 2, _, rfl, rfl, ht, i2, _, rfl, s4, fun p np => k p _ (same_new np) upd_same⟩⟩
    | great n g way =>
      have i2 : atI (Ch.great n g way).toV 2 = some (.int g) := rfl
      have hw : isWy way = true := by
        have f : (isNm (.str n) && (isGr (.int g) && isWy way)) = true := hf
        rw [Bool.and_eq_true, Bool.and_eq_true] at f
        exact f.2.2
      have e : cutL g way c.dflt = chgV c.name (.great n g way) c.dflt := cut_chg hn hd hdf
      refine iteD (nes (show ("greatest" : Str) ≠ "rename" by decide +kernel)) ⟨_, rfl, t, _, 0, _, rfl, rfl, ht, (Ch.great n g way).at0, rfl, _, rfl, iteD (nes (show ("greatest" : Str) ≠ "default" by decide +kernel)) ⟨_, rfl, t, _, 0, _, rfl, rfl, ht, (Ch.great n g way).at0, rfl, _, rfl, iteDT rfl ⟨_, rfl, _, rfl, t, _, 2, _, rfl, rfl, ht, i2, _, rfl, _, rfl, t, n, way, g, c.dflt, rfl, ht, hw, hd, fun H1 s1 => ⟨_, rfl, s4, fun p np => k p _ (s1.trans (same_new np)) ?_⟩⟩⟩⟩
      rw [e]
      exact upd_same
    | add n g d =>
      exact iteD (nes (show ("add" : Str) ≠ "rename" by decide +kernel)) ⟨_, rfl, t, _, 0, _, rfl, rfl, ht, (Ch.add n g d).at0, rfl, _, rfl, iteD (nes (show ("add" : Str) ≠ "default" by decide +kernel)) ⟨_, rfl, t, _, 0, _, rfl, rfl, ht, (Ch.add n g d).at0, rfl, _, rfl, iteD (nes (show ("add" : Str) ≠ "greatest" by decide +kernel)) ⟨_, rfl, k a H (Same.refl _) ha⟩⟩⟩
    | drop n =>
      exact iteD (nes (show ("drop" : Str) ≠ "rename" by decide +kernel)) ⟨_, rfl, t, _, 0, _, rfl, rfl, ht, (Ch.drop n).at0, rfl, _, rfl, iteD (nes (show ("drop" : Str) ≠ "default" by decide +kernel)) ⟨_, rfl, t, _, 0, _, rfl, rfl, ht, (Ch.drop n).at0, rfl, _, rfl, iteD (nes (show ("drop" : Str) ≠ "greatest" by decide +kernel)) ⟨_, rfl, k a H (Same.refl _) ha⟩⟩⟩
    | fill n i =>
      exact iteD (nes (show ("fill" : Str) ≠ "rename" by decide +kernel)) ⟨_, rfl, t, _, 0, _, rfl, rfl, ht, (Ch.fill n i).at0, rfl, _, rfl, iteD (nes (show ("fill" : Str) ≠ "default" by decide +kernel)) ⟨_, rfl, t, _, 0, _, rfl, rfl, ht, (Ch.fill n i).at0, rfl, _, rfl, iteD (nes (show ("fill" : Str) ≠ "greatest" by decide +kernel)) ⟨_, rfl, k a H (Same.refl _) ha⟩⟩⟩
/-! _law_then, where the change can be done -/
inductive LCols (K : PySem.W.Frag) (H : Hp) : List Addr → List Col → Prop
  | nil : LCols K H [] []
  | cons {a : Addr} {as : List Addr} {c : Col} {cs : List Col} : LcAt K H a c → LCols K H as cs → LCols K H (a :: as) (c :: cs)
theorem LCols.keep {K : PySem.W.Frag} {H H' : Hp} (s : Same H H') : ∀ {as : List Addr} {cs : List Col}, LCols K H as cs → LCols K H' as cs
  | _, _, .nil => .nil
  | _, _, .cons h t => .cons (h.keep s) (t.keep s)
theorem LCols.len {K : PySem.W.Frag} {H : Hp} : ∀ {as : List Addr} {cs : List Col}, LCols K H as cs → as.length = cs.length
  | _, _, .nil => rfl
  | _, _, .cons _ t => congrArg Nat.succ t.len
theorem LCols.at_ {K : PySem.W.Frag} {H : Hp} : ∀ {as : List Addr} {cs : List Col} {i : Nat} {a : Addr}, LCols K H as cs → as[i]? = some a → ∃ c, cs[i]? = some c ∧ LcAt K H a c
  | _, _, _, _, .nil, e => by simp at e
  | _, _, 0, _, .cons h t, e => by
    simp at e
    subst e
    exact ⟨_, rfl, h⟩
  | _, _, i + 1, a, .cons h t, e => by
    obtain ⟨c, h1, h2⟩ := LCols.at_ (i := i) (a := a) t (by simpa using e)
    exact ⟨c, by simpa using h1, h2⟩
theorem LCols.app {K : PySem.W.Frag} {H : Hp} : ∀ {as bs : List Addr} {cs ds : List Col}, LCols K H as cs → LCols K H bs ds → LCols K H (as ++ bs) (cs ++ ds)
  | _, _, _, _, .nil, h => h
  | _, _, _, _, .cons h t, q => .cons h (t.app q)
theorem LCols.filter {K : PySem.W.Frag} {H : Hp} (f : Col → Bool) : ∀ {as : List Addr} {cs : List Col}, LCols K H as cs → LCols K H (keepA f as cs) (cs.filter f)
  | _, _, .nil => .nil
  | _, _, .cons (c := c) h t => by
    have ih := t.filter f
    unfold keepA
    rw [List.filter_cons]
    split
    · exact .cons h ih
    · exact ih
theorem LCols.of_vs {K : PySem.W.Frag} {H : Hp} : ∀ {ys : List V} {cs : List Col}, ys.length = cs.length → (∀ (i : Nat) (y : V), ys[i]? = some y → ∃ a c, y = .ref a ∧ cs[i]? = some c ∧ LcAt K H a c) → ∃ as, ys = as.map V.ref ∧ LCols K H as cs
  | [], [], _, _ => ⟨[], rfl, .nil⟩
  | [], _ :: _, h, _ => by cases h
  | _ :: _, [], h, _ => by cases h
  | y :: ys, c :: cs, h, f => by
    obtain ⟨a, c', rfl, e, hc⟩ := f 0 y rfl
    obtain rfl : c = c' := Option.some.inj e
    obtain ⟨as, rfl, ht⟩ := LCols.of_vs (ys := ys) (cs := cs) (Nat.succ.inj h) fun i y' h1 => f (i + 1) y' (by simpa using h1)
    exact ⟨a :: as, rfl, .cons hc ht⟩
theorem LcAt.keepNL {K : PySem.W.Frag} {H H' : Hp} {a : Addr} {c : Col} (s : KeepNL H H') (h : LcAt K H a c) : LcAt K H' a c := s _ _ (fun _ z => by cases z) h
theorem LcAt.name_ {K : PySem.W.Frag} {H : Hp} {a : Addr} {c c' : Col} (h : LcAt K H a c) (h' : LcAt K H a c') : c.name = c'.name := by
  unfold LcAt at h h'
  rw [h] at h'
  have e := HO.tup.inj (Option.some.inj h')
  exact V.str.inj (List.cons.inj e).1
open Classical in
/-- whether the column at x stays -/
noncomputable def stays (K : PySem.W.Frag) (H : Hp) (n : Str) (x : V) : Bool := decide (∃ (a : Addr) (c : Col), x = .ref a ∧ LcAt K H a c ∧ ¬ c.name = n)
open Classical in
theorem stays_eq {K : PySem.W.Frag} {H : Hp} {n : Str} {a : Addr} {c : Col} (h : LcAt K H a c) : stays K H n (.ref a) = !decide (c.name = n) := by
  unfold stays
  by_cases e : c.name = n
  · rw [decide_eq_true e, decide_eq_false]
    · rfl
    · rintro ⟨a', c', e', h', ne⟩
      cases e'
      exact ne ((h'.name_ h).trans e)
  · rw [decide_eq_false e, decide_eq_true]
    · rfl
    · exact ⟨a, c, rfl, h, e⟩
theorem keepL_map {K : PySem.W.Frag} {H : Hp} (f : Col → Bool) (g : V → Bool) : ∀ {as : List Addr} {cs : List Col}, LCols K H as cs → (∀ a c, LcAt K H a c → a ∈ as → g (.ref a) = f c) → ((as.map V.ref).filter g).map (fun x => x) = (keepA f as cs).map V.ref
  | _, _, .nil, _ => rfl
  | _, _, .cons (a := a) (c := c) h t, q => by
    have ih := keepL_map f g t fun a' c' h' hm => q a' c' h' (List.mem_cons_of_mem _ hm)
    have e := q a c h List.mem_cons_self
    rw [List.map_id'] at ih ⊢
    unfold keepA
    rw [List.map_cons, List.filter_cons, e]
    split
    · rw [List.map_cons, ih]
    · exact ih
def sp_then (K : PySem.W.Frag) : Sp := fun vs H Q _ => ∃ (l t : Addr) (as : List Addr) (cs : List Col) (ch : Ch) (num : Int), vs = [.ref l, .ref t, .int num] ∧ H l = some (.lst (as.map V.ref)) ∧ LCols K H as cs ∧ ChAt K H t ch ∧ as.length ≤ 1000 ∧ ch.fits = true ∧
  (∀ c ∈ cs, valOk c.dflt = true) ∧ (∀ c ∈ behind cs ch num, isIn c.top c.dflt = true) ∧ ∀ (l' : Addr) (as' : List Addr) (H' : Hp), H l' = none → Same H H' → H' l' = some (.lst (as'.map V.ref)) → LCols K H' as' (behind cs ch num) → Q (.ref l') H'
theorem ok_then (T : Tx K mg) : Callee P w K mg base CX0 3 "_law_then" ["_law_cols_here", "_law_change_here", "_law_seat"] [] (sp_then K) := by
  have C1 := ok_col_then (P := P) (w := w) (base := base) T
  refine mkCallee (fd__law_then T) (mg__law_then T) sc__law_then (fun _ _ _ _ _ _ us hl => match us, hl with | [_, _, _], _ => rfl) (fun vs H Q E h => ?_) (fun cdv A outer s H vs Q E hr h => ?_)
  · obtain ⟨l, t, as, cs, ch, num, rfl, _⟩ := h
    rfl
  · obtain ⟨l, t, as, cs, ch, num, rfl, hl, hc, ht, hlen, hf, okc, okb, k⟩ := h
    have nd := sc__law_then.nd
    refine ⟨_, pss_cons (ps_if (pt_cmpR op_eq (pe_ix ix_tup (pv 1) pe_int (fun _ _ => rfl)) pe_str (nomark _)) (pss_one (ps_ret (pe_op op_cat (pv 0) (pe_lst (pa_cons (pe_tup (pa_cons (pe_ix ix_tup (pv 1) pe_int (fun _ _ => rfl)) (pa_cons (pe_ix ix_tup (pv 1) pe_int (fun _ _ => rfl)) (pa_cons (pe_ix ix_tup (pv 1) pe_int (fun _ _ => rfl)) (pa_cons (pv 2) pa_nil))))) pa_nil))))) pss_nil)
      (pss_cons (ps_if (pt_cmpR op_eq (pe_ix ix_tup (pv 1) pe_int (fun _ _ => rfl)) pe_str (nomark _)) (pss_one (ps_ret (pe_lc (own := [("_law_col", 3)]) (g := gName 3) (tt := tTest (tOp rNe (tOp (rIxT K) (tVar 3) (tC (.int 0))) (tOp (rIxT K) (tVar 1) (tC (.int 1))))) (te := tVar 3) rfl nd (pi_list (pv 0)) (blkOk_by (N := ["_law_cols_here", "_law_change_here", "_law_seat", "_law_col"]) (sc := defScope s__law_then) (by decide +kernel))
          (fun _ _ _ _ _ => pg_name (i := 3) nd rfl (Or.inl rfl)) (fun _ _ _ _ _ => pts_one (pt_cmpR op_ne (pe_ix ix_tup (pv 3) pe_int (fun _ _ => rfl)) (pe_ix ix_tup (pv 1) pe_int (fun _ _ => rfl)) (nomark _))) (fun _ _ _ _ _ => pv 3)))) pss_nil)
      (pss_one (ps_ret (pe_lc (own := [("_law_col", 3)]) (g := gName 3) (tt := tYes) (te := tIf (tTest (tOp rEq (tOp (rIxT K) (tVar 3) (tC (.int 0))) (tOp (rIxT K) (tVar 1) (tC (.int 1))))) (tCall (sp_col_then K) [] E0 (tCons (tVar 3) (tCons (tVar 1) tNil))) (tVar 3)) rfl nd (pi_list (pv 0)) (blkOk_by (N := ["_law_cols_here", "_law_change_here", "_law_seat", "_law_col"]) (sc := defScope s__law_then) (by decide +kernel))
          (fun _ _ _ _ _ => pg_name (i := 3) nd rfl (Or.inl rfl)) (fun _ _ _ _ _ => pts_nil) (fun _ _ _ _ _ => pe_ifExp (pt_cmpR op_eq (pe_ix ix_tup (pv 3) pe_int (fun _ _ => rfl)) (pe_ix ix_tup (pv 1) pe_int (fun _ _ => rfl)) (nomark _)) (pcall C1 hr (pa_cons (pv 3) (pa_cons (pv 1) pa_nil))) (pv 3)))))), ?_⟩
    refine ⟨_, rfl, t, _, 0, _, rfl, rfl, ht, ch.at0, rfl, _, rfl, ?_⟩
    have other : ∀ ch' : Ch, ch' = ch → behind cs ch' num = cs.map (fun c => if c.name = ch'.name then chgC c ch' else c) → tRet (tLc (iList K (tVar 0)) (gName 3) tYes (tIf (tTest (tOp rEq (tOp (rIxT K) (tVar 3) (tC (.int 0))) (tOp (rIxT K) (tVar 1) (tC (.int 1))))) (tCall (sp_col_then K) [] E0 (tCons (tVar 3) (tCons (tVar 1) tNil))) (tVar 3)) (List.map (fun x => x.2) [(("_law_col" : Str), 3)]))
        { nx := fun _ H' => Q V.non H', rt := Q } [some (.ref l), some (.ref t), some (.int num), none] H := fun ch' e0 e1 => by
      subst e0
      refine tlc_G (fun i y H' => ∃ a c, y = .ref a ∧ (behind cs ch' num)[i]? = some c ∧ LcAt K H' a c) (fun i y H1 H2 s2 ⟨a, c, h1, h2, h3⟩ => ⟨a, c, h1, h2, h3.keepNL s2⟩) (fun R h => ⟨_, rfl, h l H (Same.refl _) (sqL_of hl)⟩) (by rw [List.length_map]; omega) (fun _ => rfl) ?_ ?_
      · intro i x hx H1 s1 R hR
        rw [List.getElem?_map] at hx
        cases ha : as[i]? with
        | none =>
          rw [ha] at hx
          cases hx
        | some a =>
          rw [ha] at hx
          obtain rfl := Option.some.inj hx
          obtain ⟨c, hci, hat⟩ := hc.at_ ha
          have hb : (behind cs ch' num)[i]? = some (if c.name = ch'.name then chgC c ch' else c) := by rw [e1, List.getElem?_map, hci]; rfl
          have ht1 := ht.keep s1
          refine ⟨_, rfl, a, _, 0, _, rfl, rfl, sqT_of (hat.keep s1), rfl, _, rfl, t, _, 1, _, rfl, rfl, ht1, ch'.at1, rfl, _, rfl, ?_⟩
          by_cases e : c.name = ch'.name
          · rw [if_pos e] at hb
            rw [decide_eq_true (show V.str c.name = V.str ch'.name by rw [e])]
            exact iteT ⟨_, rfl, _, rfl, a, t, c, ch', rfl, hat.keep s1, ht1, e, hf, okc _ (List.mem_of_getElem? hci), okb _ (List.mem_of_getElem? hb), fun a' H2 s2 h2 => hR _ _ s2 ⟨a', _, rfl, hb, h2⟩⟩
          · rw [if_neg e] at hb
            rw [decide_eq_false (fun z => e (V.str.inj z))]
            exact iteF ⟨_, rfl, hR _ _ (Same.refl _) ⟨a, _, rfl, hb, hat.keep s1⟩⟩
      · intro D ys H' nD s' hD hlen' hy
        obtain ⟨as', rfl, hcs⟩ := LCols.of_vs (by rw [hlen', List.length_map, hc.len, e1, List.length_map]) hy
        exact k D as' H' nD s' hD hcs
    cases ch with
    | add n g d =>
      have i1 : atI (Ch.add n g d).toV 1 = some (.str n) := rfl
      have i2 : atI (Ch.add n g d).toV 2 = some (.int g) := rfl
      have i3 : atI (Ch.add n g d).toV 3 = some d := rfl
      refine iteDT rfl ⟨_, rfl, _, rfl, t, _, 1, _, rfl, rfl, ht, i1, _, rfl, t, _, 2, _, rfl, rfl, ht, i2, _, rfl, t, _, 3, _, rfl, rfl, ht, i3, _, rfl, (by show 4 ≤ sizeLine; decide), fun p np => ⟨by show 1 ≤ sizeLine; decide, fun q nq => ⟨l, q, as.map V.ref, [.ref p], rfl, rfl, ?_, upd_same, ?_, fun l' nl' => ?_⟩⟩⟩
      · exact same_new nq _ _ (same_new np _ _ hl)
      · rw [List.length_map]
        exact Nat.le_trans (Nat.add_le_add_right hlen 1) (by decide)
      · have s2 := (same_new (o := .lst [.ref p]) nq).trans (same_new (o := .lst (as.map V.ref ++ [.ref p])) nl')
        have s5 := (same_new (o := .tup [.str n, .int g, d, .int num]) np).trans s2
        refine k l' (as ++ [p]) _ ?_ s5 (by rw [List.map_append]; exact upd_same) ((hc.keep s5).app (.cons (s2 _ _ upd_same) .nil))
        exact ((same_new np).trans (same_new nq)).free nl'
    | drop n =>
      refine iteD (nes (show ("drop" : Str) ≠ "add" by decide +kernel)) ⟨_, rfl, t, _, 0, _, rfl, rfl, ht, (Ch.drop n).at0, rfl, _, rfl, iteDT rfl ?_⟩
      refine tlc_L (stays K H n) (fun x => x) (fun R h => ⟨_, rfl, h l H (Same.refl _) (sqL_of hl)⟩) (by rw [List.length_map]; omega) (fun _ => rfl) ?_ (fun x _ _ H1 _ R h => ⟨_, rfl, h H1 (Same.refl _)⟩) ?_
      · intro x hx H1 s1 R hR
        obtain ⟨a, ha, rfl⟩ := List.mem_map.mp hx
        obtain ⟨i, hi⟩ := List.mem_iff_getElem?.mp ha
        obtain ⟨c, hc1, hat⟩ := hc.at_ hi
        rw [stays_eq hat] at hR
        have e : decide (V.str c.name = V.str n) = decide (c.name = n) := by
          by_cases e : c.name = n
          · rw [decide_eq_true e, decide_eq_true (by rw [e])]
          · rw [decide_eq_false e, decide_eq_false (fun z => e (V.str.inj z))]
        rw [← e] at hR
        exact ⟨_, rfl, a, _, 0, _, rfl, rfl, sqT_of (hat.keep s1), rfl, _, rfl, t, _, 1, _, rfl, rfl, ht.keep s1, (Ch.drop n).at1, rfl, _, rfl, hR _ (Same.refl _)⟩
      · intro D H' nD s' hD
        rw [keepL_map (fun c => !decide (c.name = n)) (stays K H n) hc fun a c h _ => stays_eq h] at hD
        exact k D _ H' nD s' hD ((hc.keep s').filter _)
    | rename n m =>
      exact iteD (nes (show ("rename" : Str) ≠ "add" by decide +kernel)) ⟨_, rfl, t, _, 0, _, rfl, rfl, ht, (Ch.rename n m).at0, rfl, _, rfl, iteD (nes (show ("rename" : Str) ≠ "drop" by decide +kernel)) (other _ rfl rfl)⟩
    | great n g way =>
      exact iteD (nes (show ("greatest" : Str) ≠ "add" by decide +kernel)) ⟨_, rfl, t, _, 0, _, rfl, rfl, ht, (Ch.great n g way).at0, rfl, _, rfl, iteD (nes (show ("greatest" : Str) ≠ "drop" by decide +kernel)) (other _ rfl rfl)⟩
    | dflt n v =>
      exact iteD (nes (show ("default" : Str) ≠ "add" by decide +kernel)) ⟨_, rfl, t, _, 0, _, rfl, rfl, ht, (Ch.dflt n v).at0, rfl, _, rfl, iteD (nes (show ("default" : Str) ≠ "drop" by decide +kernel)) (other _ rfl rfl)⟩
    | fill n v =>
      exact iteD (nes (show ("fill" : Str) ≠ "add" by decide +kernel)) ⟨_, rfl, t, _, 0, _, rfl, rfl, ht, (Ch.fill n v).at0, rfl, _, rfl, iteD (nes (show ("fill" : Str) ≠ "drop" by decide +kernel)) (other _ rfl rfl)⟩
/-! _law_word: the same word as hindrance's -/
theorem inV_names {cs : List Col} {n : Str} : inV (.str n) ((cs.map (·.name)).map V.str) = (cs.find? (isN n)).isSome := by
  cases h : cs.find? (isN n) with
  | none => exact inV_new (find_no h)
  | some c =>
    show inV (.str n) ((cs.map (·.name)).map V.str) = true
    unfold inV
    rw [List.any_eq_true]
    have hc := List.find?_some h
    exact ⟨.str c.name, List.mem_map.mpr ⟨c.name, List.mem_map.mpr ⟨c, List.mem_of_find?_eq_some h, rfl⟩, rfl⟩, by
      have : c.name = n := of_decide_eq_true hc
      show (c.name == n) = true
      rw [this]
      exact beq_self_eq_true _⟩
theorem names_of {ys : List V} {cs : List Col} (hl : ys.length = cs.length) (h : ∀ (i : Nat) (y : V), ys[i]? = some y → ∃ c, cs[i]? = some c ∧ y = .str c.name) : ys = (cs.map (·.name)).map V.str := by
  refine List.ext_getElem? fun i => ?_
  rw [List.getElem?_map, List.getElem?_map]
  cases e : ys[i]? with
  | none =>
    have : cs[i]? = none := List.getElem?_eq_none (by have := List.getElem?_eq_none_iff.mp e; omega)
    rw [this]
    rfl
  | some y =>
    obtain ⟨c, h1, h2⟩ := h i y e
    rw [h1, h2]
    rfl
theorem find_at {n : Str} : ∀ {cs : List Col} {e : Col}, cs.find? (isN n) = some e → ∃ j : Nat, cs[j]? = some e ∧ e.name = n ∧ ∀ (m : Nat) (c : Col), m < j → cs[m]? = some c → ¬ c.name = n
  | [], _, h => by simp at h
  | c :: cs, e, h => by
    rw [List.find?_cons] at h
    by_cases q : c.name = n
    · rw [show isN n c = true from decide_eq_true q] at h
      obtain rfl := Option.some.inj h
      exact ⟨0, rfl, q, fun m c hm => by omega⟩
    · rw [show isN n c = false from decide_eq_false q] at h
      obtain ⟨j, h1, h2, h3⟩ := find_at h
      refine ⟨j + 1, by simpa using h1, h2, fun m c' hm hc => ?_⟩
      cases m with
      | zero =>
        obtain rfl : c = c' := by simpa using hc
        exact q
      | succ m => exact h3 m c' (by omega) (by simpa using hc)
theorem names_flat (cs : List Col) : ((cs.map (·.name)).map V.str).all flatV = true := by
  rw [List.all_map]
  exact List.all_eq_true.mpr fun _ _ => rfl
theorem names_at {cs : List Col} {j : Nat} {e : Col} (h : cs[j]? = some e) : ((cs.map (·.name)).map V.str)[j]? = some (.str e.name) := by
  rw [List.getElem?_map, List.getElem?_map, h]
  rfl
theorem names_before {n : Str} {cs : List Col} {j : Nat} (h : ∀ (m : Nat) (c : Col), m < j → cs[m]? = some c → ¬ c.name = n) (m : Nat) (z : V) (hm : m < j) (hz : ((cs.map (·.name)).map V.str)[m]? = some z) : eqV z (.str n) = false := by
  rw [List.getElem?_map, List.getElem?_map] at hz
  cases hc : cs[m]? with
  | none =>
    rw [hc] at hz
    cases hz
  | some c =>
    rw [hc] at hz
    obtain rfl := Option.some.inj hz
    exact beq_eq_false_iff_ne.mpr (h m c hm hc)
theorem great_word {e : Col} {n : Str} {g : Int} {way : Str} (en : e.name = n) (hw : isWy way = true) (hv : valOk e.dflt = true) : chgV e.name (.great n g way) e.dflt = .str "missing" ↔ way = "refuse" ∧ ∃ j, e.dflt = .int j ∧ g < j := by
  unfold chgV
  rw [if_pos (show (Ch.great n g way).name = e.name from en.symm)]
  cases hd : e.dflt with
  | non => exact ⟨fun z => (by cases z), fun z => (by obtain ⟨_, j, z, _⟩ := z; cases z)⟩
  | int j =>
    show (if g < j then abv g way else .int j) = V.str "missing" ↔ _
    by_cases q : g < j
    · rw [if_pos q]
      unfold abv
      have hw' : (decide (way = "cut") || (decide (way = "none") || decide (way = "refuse"))) = true := hw
      rw [Bool.or_eq_true, Bool.or_eq_true, decide_eq_true_iff, decide_eq_true_iff, decide_eq_true_iff] at hw'
      rcases hw' with rfl | rfl | rfl
      · rw [if_pos rfl]
        exact ⟨fun z => (by cases z), fun z => absurd z.1 (by decide +kernel)⟩
      · rw [if_neg (by decide +kernel), if_pos rfl]
        exact ⟨fun z => (by cases z), fun z => absurd z.1 (by decide +kernel)⟩
      · rw [if_neg (by decide +kernel), if_neg (by decide +kernel)]
        exact ⟨fun _ => ⟨rfl, j, rfl, q⟩, fun _ => rfl⟩
    · rw [if_neg q]
      exact ⟨fun z => (by cases z), fun z => (by obtain ⟨_, j', z, q'⟩ := z; cases z; exact absurd q' q)⟩
  | _ => rw [hd] at hv; cases hv
def sp_word (K : PySem.W.Frag) : Sp := fun vs H Q _ => ∃ (l t : Addr) (as : List Addr) (cs : List Col) (ch : Ch), vs = [.ref l, .ref t] ∧ H l = some (.lst (as.map V.ref)) ∧ LCols K H as cs ∧ ChAt K H t ch ∧ as.length ≤ 1000 ∧ ch.fits = true ∧ (∀ c ∈ cs, ColOk c) ∧ ∀ H', Same H H' → Q (hindV cs ch) H'
theorem ok_word (T : Tx K mg) : Callee P w K mg base CX0 1 "_law_word" ["_law_cols_here", "_law_change_here"] [] (sp_word K) := by
  refine mkCallee (fd__law_word T) (mg__law_word T) sc__law_word (fun _ _ _ _ _ _ us hl => match us, hl with | [_, _], _ => rfl) (fun vs H Q E h => ?_) (fun cdv A outer s H vs Q E hr h => ?_)
  · obtain ⟨l, t, as, cs, ch, rfl, _⟩ := h
    rfl
  · obtain ⟨l, t, as, cs, ch, rfl, hl, hc, ht, hlen, hf, hok, k⟩ := h
    have nd := sc__law_word.nd
    refine ⟨_, pss_cons (ps_setLc (i := 3) (own := [("_law_col", 2)]) (g := gName 2) (tt := tYes) (te := tOp (rIxT K) (tVar 2) (tC (.int 0))) rfl nd rfl rfl (by rfl) (pi_list (pv 0)) (blkOk_by (N := ["_law_cols_here", "_law_change_here", "_law_col", "_law_names"]) (sc := defScope s__law_word) (by decide +kernel))
          (fun _ _ _ _ _ => pg_name (i := 2) nd rfl (Or.inl rfl)) (fun _ _ _ _ _ => pts_nil) (fun _ _ _ _ _ => pe_ix ix_tup (pv 2) pe_int (fun _ _ => rfl)))
      (pss_cons (ps_if (pt_cmpR op_eq (pe_ix ix_tup (pv 1) pe_int (fun _ _ => rfl)) pe_str (nomark _))
        (pss_cons (ps_if (pt_cmpR op_in_seq (pe_ix ix_tup (pv 1) pe_int (fun _ _ => rfl)) (pv 3) (by rfl)) (pss_one (ps_ret pe_str)) pss_nil)
        (pss_cons (ps_if (pt_cmpR op_gt (pe_callB call_len (by rfl) (fr_len T) PySem.boot_len (pa_cons (pv 0) pa_nil)) pe_int (nomark _)) (pss_one (ps_ret pe_str)) pss_nil)
        (pss_one (ps_ret (pe_ifExp (PW.pt (pw_and (pt_cmpR op_notN (pe_ix ix_tup (pv 1) pe_int (fun _ _ => rfl)) pe_non (nomark _)) (pw_and1 (pt_cmpR op_gt (pe_ix ix_tup (pv 1) pe_int (fun _ _ => rfl)) (pe_ix ix_tup (pv 1) pe_int (fun _ _ => rfl)) (nomark _))))) pe_str pe_non))))) pss_nil)
      (pss_cons (ps_if (pt_cmpR op_notIn_seq (pe_ix ix_tup (pv 1) pe_int (fun _ _ => rfl)) (pv 3) (by rfl)) (pss_one (ps_ret pe_str)) pss_nil)
      (pss_cons (ps_set (i := 2) nd rfl (Or.inl rfl) (pe_ix ix_list (pv 0) (pe_bm PySem.F.plainAttrs_list PySem.F.slot_list_index PySem.F.type_list_index mt_index (pv 3) (pa_cons (pe_ix ix_tup (pv 1) pe_int (fun _ _ => rfl)) pa_nil)) (fun _ _ => rfl)))
      (pss_cons (ps_if (pt_cmpR op_eq (pe_ix ix_tup (pv 1) pe_int (fun _ _ => rfl)) pe_str (nomark _)) (pss_one (ps_ret (pe_ifExp (pt_cmpR op_in_seq (pe_ix ix_tup (pv 1) pe_int (fun _ _ => rfl)) (pv 3) (by rfl)) pe_str pe_non))) pss_nil)
      (pss_cons (ps_if (pt_cmpR op_eq (pe_ix ix_tup (pv 1) pe_int (fun _ _ => rfl)) pe_str (nomark _)) (pss_one (ps_ret (pe_ifExp (pt_cmpR op_eq (pe_callB call_len (by rfl) (fr_len T) PySem.boot_len (pa_cons (pv 0) pa_nil)) pe_int (nomark _)) pe_str pe_non))) pss_nil)
      (pss_cons (ps_if (pt_cmpR op_in_seq (pe_ix ix_tup (pv 1) pe_int (fun _ _ => rfl)) (pe_lst (pa_cons pe_str (pa_cons pe_str pa_nil))) (by rfl)) (pss_one (ps_ret (pe_ifExp (PW.pt (pw_and (pt_cmpR op_notN (pe_ix ix_tup (pv 1) pe_int (fun _ _ => rfl)) pe_non (nomark _)) (pw_and1 (pt_cmpR op_gt (pe_ix ix_tup (pv 1) pe_int (fun _ _ => rfl)) (pe_ix ix_tup (pv 2) pe_int (fun _ _ => rfl)) (nomark _))))) pe_str pe_non))) pss_nil)
      (pss_one (ps_ret (pe_ifExp (PW.pt (pw_and (pt_cmpR op_eq (pe_ix ix_tup (pv 1) pe_int (fun _ _ => rfl)) pe_str (nomark _)) (pw_and (pt_cmpR op_notN (pe_ix ix_tup (pv 2) pe_int (fun _ _ => rfl)) pe_non (nomark _)) (pw_and1 (pt_cmpR op_gt (pe_ix ix_tup (pv 2) pe_int (fun _ _ => rfl)) (pe_ix ix_tup (pv 1) pe_int (fun _ _ => rfl)) (nomark _)))))) pe_str pe_non))))))))), ?_⟩
    refine q_asgX ?_
    refine tlc_G (K := K) (xs := as.map V.ref) (fun i y _ => ∃ c, cs[i]? = some c ∧ y = .str c.name) (fun i y H1 H2 s2 h => h) (fun R h => ⟨_, rfl, h l H (Same.refl _) (sqL_of hl)⟩) (by rw [List.length_map]; omega) (fun _ => rfl) ?_ ?_
    · intro i x hx H1 s1 R hR
      rw [List.getElem?_map] at hx
      cases ha : as[i]? with
      | none =>
        rw [ha] at hx
        cases hx
      | some a =>
        rw [ha] at hx
        obtain rfl := Option.some.inj hx
        obtain ⟨c, hci, hat⟩ := hc.at_ ha
        exact ⟨_, rfl, a, _, 0, _, rfl, rfl, sqT_of (hat.keep s1), rfl, hR _ _ (Same.refl _) ⟨c, hci, rfl⟩⟩
    · intro D ys H1 nD s1 hD hlen' hy
      obtain rfl := names_of (by rw [hlen', List.length_map, hc.len]) hy
      have k1 : ∀ H', Same H1 H' → Q (hindV cs ch) H' := fun H' s => k H' (s1.trans s)
      have hl1 := s1 _ _ hl
      have hc1 := hc.keep s1
      have ht1 := ht.keep s1
      clear hy hlen' nD k hl hc ht
      have hfl := names_flat cs
      have hL : LenV K (.ref l) H1 cs.length := .inl ⟨_, sqL_of hl1, by rw [List.length_map]; exact hc1.len.symm⟩
      refine ⟨_, rfl, t, _, 0, _, rfl, rfl, ht1, ch.at0, rfl, _, rfl, ?_⟩
      cases ch with
      | add n g d =>
        have i1 : atI (Ch.add n g d).toV 1 = some (.str n) := rfl
        have i2 : atI (Ch.add n g d).toV 2 = some (.int g) := rfl
        have i3 : atI (Ch.add n g d).toV 3 = some d := rfl
        refine iteDT rfl ⟨_, rfl, t, _, 1, _, rfl, rfl, ht1, i1, _, rfl, D, _, rfl, .inl (sqL_of hD), rfl, hfl, _, rfl, ?_⟩
        show if inV (.str n) ((cs.map (·.name)).map V.str) = true then _ else _
        rw [inV_names]
        cases hx : cs.find? (isN n) with
        | some e => exact iteT (by have q := k1 H1 (Same.refl _); simp only [hindV, addHind, hx] at q; exact q)
        | none =>
          refine iteF (nxt ⟨_, rfl, _, cs.length, rfl, hL, _, _, rfl, rfl, _, rfl, ?_⟩)
          have kn : ∀ v, hindV cs (.add n g d) = v → Q v H1 := fun v e => by rw [← e]; exact k1 H1 (Same.refl _)
          by_cases h6 : 6 ≤ cs.length
          · exact iteDT (by omega) (kn _ (by simp only [hindV, addHind, hx]; rw [if_neg (by decide), if_pos h6]))
          · refine iteD (by omega) (nxt ⟨_, rfl, t, _, 3, _, rfl, rfl, ht1, i3, rfl, _, rfl, ?_⟩)
            have hv : isVal d = true := by
              have hf' : (isNm (.str n) && (isGr (.int g) && isVal d)) = true := hf
              rw [Bool.and_eq_true, Bool.and_eq_true] at hf'
              exact hf'.2.2
            cases d with
            | non => exact iteF (iteF (kn _ (by simp only [hindV, addHind, hx]; rw [if_neg (by decide), if_neg h6]; rfl)))
            | int j =>
              refine iteT ⟨_, rfl, t, _, 3, _, rfl, rfl, ht1, i3, _, rfl, t, _, 2, _, rfl, rfl, ht1, i2, _, _, rfl, rfl, _, rfl, ?_⟩
              have h0 : 0 ≤ j := of_decide_eq_true hv
              by_cases q : g < j
              · refine iteDT q (kn _ ?_)
                simp only [hindV, addHind, hx]
                rw [if_neg (by decide), if_neg h6, if_neg]
                show ¬ (decide (0 ≤ j) && decide (j ≤ g)) = true
                rw [decide_eq_false (show ¬ j ≤ g by omega), Bool.and_false]
                decide
              · refine iteD q (kn _ ?_)
                simp only [hindV, addHind, hx]
                rw [if_neg (by decide), if_neg h6, if_pos]
                show (decide (0 ≤ j) && decide (j ≤ g)) = true
                rw [decide_eq_true (show j ≤ g by omega), decide_eq_true h0]
                rfl
            | _ => cases hv
      | drop n =>
        have i1 : atI (Ch.drop n).toV 1 = some (.str n) := rfl
        have i0 : atI (Ch.drop n).toV 0 = some (.str "drop") := rfl
        have kn : ∀ wv, hindV cs (.drop n) = wv → ∀ H', Same H1 H' → Q wv H' := fun wv e H' s' => by rw [← e]; exact k1 H' s'
        refine iteD (nes (show ("drop" : Str) ≠ "add" by decide +kernel)) (nxt ⟨_, rfl, t, _, 1, _, rfl, rfl, ht1, i1, _, rfl, D, _, rfl, .inl (sqL_of hD), rfl, hfl, _, rfl, ?_⟩)
        show if (!inV (.str n) ((cs.map (·.name)).map V.str)) = true then _ else _
        rw [inV_names]
        cases hx : cs.find? (isN n) with
        | none => exact iteT (kn _ (by simp only [hindV, hx]) H1 (Same.refl _))
        | some e =>
          obtain ⟨j, hj, en, hb⟩ := find_at hx
          have hja : j < as.length := by rw [hc1.len]; exact (List.getElem?_eq_some_iff.mp hj).1
          have haj := List.getElem?_eq_getElem hja
          obtain ⟨e', he', hat⟩ := hc1.at_ haj
          obtain rfl : e = e' := Option.some.inj (hj.symm.trans he')
          have hix := lref_at haj
          refine iteF (nxt ⟨_, rfl, _, rfl, .inl ⟨rfl, _, sqL_of hD⟩, _, rfl, t, _, 1, _, rfl, rfl, ht1, i1, D, _, .str n, j, _, rfl, rfl, sqL_of hD, rfl, hfl, names_at hj, (by rw [en]; exact beq_self_eq_true _), names_before hb, l, _, _, _, rfl, rfl, sqL_of hl1, hix, ?_⟩)
          have hs := sqT_of (K := K) hat
          refine ⟨_, rfl, t, _, 0, _, rfl, rfl, ht1, i0, rfl, _, rfl, ?_⟩
          refine iteD (nes (show ("drop" : Str) ≠ "rename" by decide +kernel)) (nxt ⟨_, rfl, t, _, 0, _, rfl, rfl, ht1, i0, rfl, _, rfl, ?_⟩)
          refine iteDT rfl ⟨_, rfl, _, cs.length, rfl, hL, rfl, _, rfl, ?_⟩
          by_cases h1 : cs.length = 1
          · exact iteDT (by rw [h1]; rfl) (kn _ (by simp only [hindV, hx]; rw [if_pos h1]) H1 (Same.refl _))
          · exact iteD (nei (by omega)) (kn _ (by simp only [hindV, hx]; rw [if_neg h1]) H1 (Same.refl _))
      | rename n m =>
        have i1 : atI (Ch.rename n m).toV 1 = some (.str n) := rfl
        have i0 : atI (Ch.rename n m).toV 0 = some (.str "rename") := rfl
        have kn : ∀ wv, hindV cs (.rename n m) = wv → ∀ H', Same H1 H' → Q wv H' := fun wv e H' s' => by rw [← e]; exact k1 H' s'
        refine iteD (nes (show ("rename" : Str) ≠ "add" by decide +kernel)) (nxt ⟨_, rfl, t, _, 1, _, rfl, rfl, ht1, i1, _, rfl, D, _, rfl, .inl (sqL_of hD), rfl, hfl, _, rfl, ?_⟩)
        show if (!inV (.str n) ((cs.map (·.name)).map V.str)) = true then _ else _
        rw [inV_names]
        cases hx : cs.find? (isN n) with
        | none => exact iteT (kn _ (by simp only [hindV, hx]) H1 (Same.refl _))
        | some e =>
          obtain ⟨j, hj, en, hb⟩ := find_at hx
          have hja : j < as.length := by rw [hc1.len]; exact (List.getElem?_eq_some_iff.mp hj).1
          have haj := List.getElem?_eq_getElem hja
          obtain ⟨e', he', hat⟩ := hc1.at_ haj
          obtain rfl : e = e' := Option.some.inj (hj.symm.trans he')
          have hix := lref_at haj
          refine iteF (nxt ⟨_, rfl, _, rfl, .inl ⟨rfl, _, sqL_of hD⟩, _, rfl, t, _, 1, _, rfl, rfl, ht1, i1, D, _, .str n, j, _, rfl, rfl, sqL_of hD, rfl, hfl, names_at hj, (by rw [en]; exact beq_self_eq_true _), names_before hb, l, _, _, _, rfl, rfl, sqL_of hl1, hix, ?_⟩)
          have hs := sqT_of (K := K) hat
          refine ⟨_, rfl, t, _, 0, _, rfl, rfl, ht1, i0, rfl, _, rfl, ?_⟩
          have i2 : atI (Ch.rename n m).toV 2 = some (.str m) := rfl
          refine iteDT rfl ⟨_, rfl, t, _, 2, _, rfl, rfl, ht1, i2, _, rfl, D, _, rfl, .inl (sqL_of hD), rfl, hfl, _, rfl, ?_⟩
          show if inV (.str m) ((cs.map (·.name)).map V.str) = true then _ else _
          rw [inV_names]
          cases hm : cs.find? (isN m) with
          | none => exact iteF (kn _ (by simp only [hindV, hx, hm]; rfl) H1 (Same.refl _))
          | some e2 => exact iteT (kn _ (by simp only [hindV, hx, hm]; rfl) H1 (Same.refl _))
      | dflt n v =>
        have i1 : atI (Ch.dflt n v).toV 1 = some (.str n) := rfl
        have i0 : atI (Ch.dflt n v).toV 0 = some (.str "default") := rfl
        have kn : ∀ wv, hindV cs (.dflt n v) = wv → ∀ H', Same H1 H' → Q wv H' := fun wv e H' s' => by rw [← e]; exact k1 H' s'
        refine iteD (nes (show ("default" : Str) ≠ "add" by decide +kernel)) (nxt ⟨_, rfl, t, _, 1, _, rfl, rfl, ht1, i1, _, rfl, D, _, rfl, .inl (sqL_of hD), rfl, hfl, _, rfl, ?_⟩)
        show if (!inV (.str n) ((cs.map (·.name)).map V.str)) = true then _ else _
        rw [inV_names]
        cases hx : cs.find? (isN n) with
        | none => exact iteT (kn _ (by simp only [hindV, hx]) H1 (Same.refl _))
        | some e =>
          obtain ⟨j, hj, en, hb⟩ := find_at hx
          have hja : j < as.length := by rw [hc1.len]; exact (List.getElem?_eq_some_iff.mp hj).1
          have haj := List.getElem?_eq_getElem hja
          obtain ⟨e', he', hat⟩ := hc1.at_ haj
          obtain rfl : e = e' := Option.some.inj (hj.symm.trans he')
          have hix := lref_at haj
          refine iteF (nxt ⟨_, rfl, _, rfl, .inl ⟨rfl, _, sqL_of hD⟩, _, rfl, t, _, 1, _, rfl, rfl, ht1, i1, D, _, .str n, j, _, rfl, rfl, sqL_of hD, rfl, hfl, names_at hj, (by rw [en]; exact beq_self_eq_true _), names_before hb, l, _, _, _, rfl, rfl, sqL_of hl1, hix, ?_⟩)
          have hs := sqT_of (K := K) hat
          refine ⟨_, rfl, t, _, 0, _, rfl, rfl, ht1, i0, rfl, _, rfl, ?_⟩
          refine iteD (nes (show ("default" : Str) ≠ "rename" by decide +kernel)) (nxt ⟨_, rfl, t, _, 0, _, rfl, rfl, ht1, i0, rfl, _, rfl, ?_⟩)
          refine iteD (nes (show ("default" : Str) ≠ "drop" by decide +kernel)) (nxt ⟨_, rfl, t, _, 0, _, rfl, rfl, ht1, i0, (by show 2 ≤ sizeLine; decide), fun q nq => ⟨q, _, rfl, .inl (sqL_of upd_same), rfl, rfl, _, rfl, ?_⟩⟩)
          have s2 := same_new (o := .lst [V.str "default", .str "fill"]) nq
          have ht2 := same_tup s2 ht1
          have hs2 := same_tup s2 hs
          have i2 : atI (Ch.dflt n v).toV 2 = some v := rfl
          refine iteT ⟨_, rfl, t, _, 2, _, rfl, rfl, ht2, i2, rfl, _, rfl, ?_⟩
          have hv : isVal v = true := by
            have hf' : (isNm (.str n) && isVal v) = true := hf
            rw [Bool.and_eq_true] at hf'
            exact hf'.2
          cases v with
          | non => exact iteF (iteF (kn _ (by simp only [hindV, hx]; rw [if_pos (show isIn e.top V.non = true from rfl)]) _ s2))
          | int j2 =>
              refine iteT ⟨_, rfl, t, _, 2, _, rfl, rfl, ht2, i2, _, rfl, as[j], _, 1, _, rfl, rfl, hs2, rfl, _, _, rfl, rfl, _, rfl, ?_⟩
              have h0 : 0 ≤ j2 := of_decide_eq_true hv
              by_cases q2 : e.top < j2
              · refine iteDT q2 (kn _ ?_ _ s2)
                simp only [hindV, hx]
                rw [if_neg]
                show ¬ (decide (0 ≤ j2) && decide (j2 ≤ e.top)) = true
                rw [decide_eq_false (show ¬ j2 ≤ e.top by omega), Bool.and_false]
                decide
              · refine iteD q2 (kn _ ?_ _ s2)
                simp only [hindV, hx]
                rw [if_pos]
                show (decide (0 ≤ j2) && decide (j2 ≤ e.top)) = true
                rw [decide_eq_true (show j2 ≤ e.top by omega), decide_eq_true h0]
                rfl
          | _ => cases hv
      | fill n j2 =>
        have i1 : atI (Ch.fill n j2).toV 1 = some (.str n) := rfl
        have i0 : atI (Ch.fill n j2).toV 0 = some (.str "fill") := rfl
        have kn : ∀ wv, hindV cs (.fill n j2) = wv → ∀ H', Same H1 H' → Q wv H' := fun wv e H' s' => by rw [← e]; exact k1 H' s'
        refine iteD (nes (show ("fill" : Str) ≠ "add" by decide +kernel)) (nxt ⟨_, rfl, t, _, 1, _, rfl, rfl, ht1, i1, _, rfl, D, _, rfl, .inl (sqL_of hD), rfl, hfl, _, rfl, ?_⟩)
        show if (!inV (.str n) ((cs.map (·.name)).map V.str)) = true then _ else _
        rw [inV_names]
        cases hx : cs.find? (isN n) with
        | none => exact iteT (kn _ (by simp only [hindV, hx]) H1 (Same.refl _))
        | some e =>
          obtain ⟨j, hj, en, hb⟩ := find_at hx
          have hja : j < as.length := by rw [hc1.len]; exact (List.getElem?_eq_some_iff.mp hj).1
          have haj := List.getElem?_eq_getElem hja
          obtain ⟨e', he', hat⟩ := hc1.at_ haj
          obtain rfl : e = e' := Option.some.inj (hj.symm.trans he')
          have hix := lref_at haj
          refine iteF (nxt ⟨_, rfl, _, rfl, .inl ⟨rfl, _, sqL_of hD⟩, _, rfl, t, _, 1, _, rfl, rfl, ht1, i1, D, _, .str n, j, _, rfl, rfl, sqL_of hD, rfl, hfl, names_at hj, (by rw [en]; exact beq_self_eq_true _), names_before hb, l, _, _, _, rfl, rfl, sqL_of hl1, hix, ?_⟩)
          have hs := sqT_of (K := K) hat
          refine ⟨_, rfl, t, _, 0, _, rfl, rfl, ht1, i0, rfl, _, rfl, ?_⟩
          refine iteD (nes (show ("fill" : Str) ≠ "rename" by decide +kernel)) (nxt ⟨_, rfl, t, _, 0, _, rfl, rfl, ht1, i0, rfl, _, rfl, ?_⟩)
          refine iteD (nes (show ("fill" : Str) ≠ "drop" by decide +kernel)) (nxt ⟨_, rfl, t, _, 0, _, rfl, rfl, ht1, i0, (by show 2 ≤ sizeLine; decide), fun q nq => ⟨q, _, rfl, .inl (sqL_of upd_same), rfl, rfl, _, rfl, ?_⟩⟩)
          have s2 := same_new (o := .lst [V.str "default", .str "fill"]) nq
          have ht2 := same_tup s2 ht1
          have hs2 := same_tup s2 hs
          have i2 : atI (Ch.fill n j2).toV 2 = some (.int j2) := rfl
          refine iteT ⟨_, rfl, t, _, 2, _, rfl, rfl, ht2, i2, rfl, _, rfl, ?_⟩
          have hv : 0 ≤ j2 := by
            have hf' : (isNm (.str n) && decide (0 ≤ j2)) = true := hf
            rw [Bool.and_eq_true] at hf'
            exact of_decide_eq_true hf'.2
          refine iteT ⟨_, rfl, t, _, 2, _, rfl, rfl, ht2, i2, _, rfl, as[j], _, 1, _, rfl, rfl, hs2, rfl, _, _, rfl, rfl, _, rfl, ?_⟩
          have h0 : 0 ≤ j2 := hv
          by_cases q2 : e.top < j2
          · refine iteDT q2 (kn _ ?_ _ s2)
            simp only [hindV, hx]
            rw [if_neg]
            show ¬ (decide (0 ≤ j2) && decide (j2 ≤ e.top)) = true
            rw [decide_eq_false (show ¬ j2 ≤ e.top by omega), Bool.and_false]
            decide
          · refine iteD q2 (kn _ ?_ _ s2)
            simp only [hindV, hx]
            rw [if_pos]
            show (decide (0 ≤ j2) && decide (j2 ≤ e.top)) = true
            rw [decide_eq_true (show j2 ≤ e.top by omega), decide_eq_true h0]
            rfl
      | great n g way =>
        have i1 : atI (Ch.great n g way).toV 1 = some (.str n) := rfl
        have i0 : atI (Ch.great n g way).toV 0 = some (.str "greatest") := rfl
        have kn : ∀ wv, hindV cs (.great n g way) = wv → ∀ H', Same H1 H' → Q wv H' := fun wv e H' s' => by rw [← e]; exact k1 H' s'
        refine iteD (nes (show ("greatest" : Str) ≠ "add" by decide +kernel)) (nxt ⟨_, rfl, t, _, 1, _, rfl, rfl, ht1, i1, _, rfl, D, _, rfl, .inl (sqL_of hD), rfl, hfl, _, rfl, ?_⟩)
        show if (!inV (.str n) ((cs.map (·.name)).map V.str)) = true then _ else _
        rw [inV_names]
        cases hx : cs.find? (isN n) with
        | none => exact iteT (kn _ (by simp only [hindV, hx]) H1 (Same.refl _))
        | some e =>
          obtain ⟨j, hj, en, hb⟩ := find_at hx
          have hja : j < as.length := by rw [hc1.len]; exact (List.getElem?_eq_some_iff.mp hj).1
          have haj := List.getElem?_eq_getElem hja
          obtain ⟨e', he', hat⟩ := hc1.at_ haj
          obtain rfl : e = e' := Option.some.inj (hj.symm.trans he')
          have hix := lref_at haj
          refine iteF (nxt ⟨_, rfl, _, rfl, .inl ⟨rfl, _, sqL_of hD⟩, _, rfl, t, _, 1, _, rfl, rfl, ht1, i1, D, _, .str n, j, _, rfl, rfl, sqL_of hD, rfl, hfl, names_at hj, (by rw [en]; exact beq_self_eq_true _), names_before hb, l, _, _, _, rfl, rfl, sqL_of hl1, hix, ?_⟩)
          have hs := sqT_of (K := K) hat
          refine ⟨_, rfl, t, _, 0, _, rfl, rfl, ht1, i0, rfl, _, rfl, ?_⟩
          refine iteD (nes (show ("greatest" : Str) ≠ "rename" by decide +kernel)) (nxt ⟨_, rfl, t, _, 0, _, rfl, rfl, ht1, i0, rfl, _, rfl, ?_⟩)
          refine iteD (nes (show ("greatest" : Str) ≠ "drop" by decide +kernel)) (nxt ⟨_, rfl, t, _, 0, _, rfl, rfl, ht1, i0, (by show 2 ≤ sizeLine; decide), fun q nq => ⟨q, _, rfl, .inl (sqL_of upd_same), rfl, rfl, _, rfl, ?_⟩⟩)
          have s2 := same_new (o := .lst [V.str "default", .str "fill"]) nq
          have ht2 := same_tup s2 ht1
          have hs2 := same_tup s2 hs
          have i2 : atI (Ch.great n g way).toV 2 = some (.int g) := rfl
          have i3 : atI (Ch.great n g way).toV 3 = some (.str way) := rfl
          have hwy : isWy way = true := by
            have hf' : (isNm (.str n) && (isGr (.int g) && isWy way)) = true := hf
            rw [Bool.and_eq_true, Bool.and_eq_true] at hf'
            exact hf'.2.2
          have hdv : valOk e.dflt = true := by
            have q := (hok e (List.mem_of_getElem? hj)).df
            cases hd : e.dflt with
            | non => rfl
            | int _ => rfl
            | _ => rw [hd] at q; cases q
          have gw := great_word (g := g) en hwy hdv
          have kw : ∀ b : Prop, (way = "refuse" ∧ ∃ j, e.dflt = .int j ∧ g < j) → hindV cs (.great n g way) = .str "default" := fun _ z => by simp only [hindV, hx]; rw [if_pos (gw.mpr z)]
          have ko : ¬ (way = "refuse" ∧ ∃ j, e.dflt = .int j ∧ g < j) → hindV cs (.great n g way) = .non := fun z => by simp only [hindV, hx]; rw [if_neg (fun q => z (gw.mp q))]
          refine iteF (nxt ⟨_, rfl, t, _, 3, _, rfl, rfl, ht2, i3, rfl, _, rfl, ?_⟩)
          by_cases hr2 : way = "refuse"
          · refine iteDT (by rw [hr2]) ⟨_, rfl, as[j], _, 2, _, rfl, rfl, hs2, rfl, rfl, _, rfl, ?_⟩
            cases hd : e.dflt with
            | non => exact iteF (iteF (kn _ (ko (fun z => by obtain ⟨_, j', z, _⟩ := z; rw [hd] at z; cases z)) _ s2))
            | int j2 =>
              refine iteT ⟨_, rfl, as[j], _, 2, _, rfl, rfl, hs2, (show _ = some (V.int j2) by rw [← hd]; rfl), _, rfl, t, _, 2, _, rfl, rfl, ht2, i2, _, _, rfl, rfl, _, rfl, ?_⟩
              by_cases q2 : g < j2
              · exact iteDT q2 (kn _ (kw True ⟨hr2, j2, hd, q2⟩) _ s2)
              · exact iteD q2 (kn _ (ko (fun z => by obtain ⟨_, j', z, q'⟩ := z; rw [hd] at z; cases z; exact q2 q')) _ s2)
            | _ => rw [hd] at hdv; cases hdv
          · exact iteD (nes hr2) (iteF (kn _ (ko (fun z => hr2 z.1)) _ s2))
-- needs: columns_of_editions columns_behind
/-! the names that the first laws draw -/
abbrev nm3 : List Str := ["a", "b", "cc"]
def nmCh : Ch → Bool
  | .add n _ _ => decide (n ∈ nm3)
  | .rename _ m => decide (m ∈ nm3)
  | _ => true
theorem nm3_behind {cs : List Col} {ch : Ch} {num : Int} (h : ∀ c ∈ cs, c.name ∈ nm3) (hc : nmCh ch = true) : ∀ c ∈ behind cs ch num, c.name ∈ nm3 := by
  have mapped : ∀ ch', nmCh ch' = true → ∀ c ∈ cs, (if c.name = ch'.name then chgC c ch' else c).name ∈ nm3 := fun ch' hc' c hm => by
    split
    · cases ch' with
      | rename n m => exact of_decide_eq_true hc'
      | _ => exact h c hm
    · exact h c hm
  intro c hm
  cases ch with
  | add n g d =>
    rcases List.mem_append.mp (show c ∈ cs ++ [⟨n, g, d, num⟩] from hm) with hm | hm
    · exact h c hm
    · rw [List.mem_singleton.mp hm]
      exact of_decide_eq_true hc
  | drop n =>
    exact h c (List.mem_filter.mp (show c ∈ cs.filter _ from hm)).1
  | rename n m =>
    obtain ⟨c', h1, h2⟩ := List.mem_map.mp (show c ∈ cs.map (fun c => if c.name = (Ch.rename n m).name then chgC c (.rename n m) else c) from hm)
    rw [← h2]
    exact mapped _ hc c' h1
  | dflt n v =>
    obtain ⟨c', h1, h2⟩ := List.mem_map.mp (show c ∈ cs.map (fun c => if c.name = (Ch.dflt n v).name then chgC c (.dflt n v) else c) from hm)
    rw [← h2]
    exact mapped _ hc c' h1
  | great n g w =>
    obtain ⟨c', h1, h2⟩ := List.mem_map.mp (show c ∈ cs.map (fun c => if c.name = (Ch.great n g w).name then chgC c (.great n g w) else c) from hm)
    rw [← h2]
    exact mapped _ hc c' h1
  | fill n v =>
    obtain ⟨c', h1, h2⟩ := List.mem_map.mp (show c ∈ cs.map (fun c => if c.name = (Ch.fill n v).name then chgC c (.fill n v) else c) from hm)
    rw [← h2]
    exact mapped _ hc c' h1
theorem nm3_at {cs : List Col} {chs : List Ch} (h : ∀ c ∈ cs, c.name ∈ nm3) (hc : ∀ ch ∈ chs, nmCh ch = true) : ∀ m, m ≤ chs.length → ∀ c ∈ (atC cs (chs.take m)).1, c.name ∈ nm3
  | 0, _ => h
  | m + 1, hm => by
    obtain ⟨ch, e⟩ : ∃ ch, chs[m]? = some ch := ⟨_, List.getElem?_eq_getElem (by omega)⟩
    rw [List.take_add_one, e]
    have e1 : (atC cs (chs.take m ++ [ch])).1 = behind (atC cs (chs.take m)).1 ch (atC cs (chs.take m)).2 := by
      show (List.foldl stepC (cs, (cs.length : Int)) (chs.take m ++ [ch])).1 = _
      rw [List.foldl_append]
      rfl
    show ∀ c ∈ (atC cs (chs.take m ++ [ch])).1, c.name ∈ nm3
    rw [e1]
    exact nm3_behind (nm3_at h hc m (by omega)) (hc ch (List.mem_of_getElem? e))

/-! _law_change: a drawn change fits -/
theorem npool {H : Hp} {p l : Addr} {o : HO} (h : H p = some o) (n : H l = none) : l ≠ p := fun e => by
  rw [e, h] at n
  cases n
def sp_law_change (K : PySem.W.Frag) : Sp := fun vs H Q _ => ∃ (p : Addr) (z0 z1 m : Int), vs = [.ref p, .int m] ∧ H p = some (.lst [.int z0, .int z1]) ∧ 1 ≤ m ∧ m ≤ 99 ∧
  ∀ (t : Addr) (c : Ch) (y0 y1 : Int) (H' : Hp), c.fits = true → nmCh c = true → But p H H' → H' p = some (.lst [.int y0, .int y1]) → ChAt K H' t c → Q (.ref t) H'
theorem nmk {n : Str} (h : n = "a" ∨ n = "b" ∨ n = "cc") : isNm (.str n) = true := by
  rcases h with rfl | rfl | rfl <;> decide +kernel
theorem mem3 {x : V} {a b c : V} (h : x ∈ [a, b, c]) : x = a ∨ x = b ∨ x = c := by
  simpa [List.mem_cons] using h
theorem ok_law_change (T : Tx K mg) : Callee P w K mg base CX0 4 "_law_change" ["_law_pool_here", "_law_most"] [] (sp_law_change K) := by
  have C1 := (ok_pick (P := P) (w := w) (base := base) T).up (show 2 ≤ 3 by decide)
  have C2 := ok_value (P := P) (w := w) (base := base) T
  have C3 := (ok_draw (P := P) (w := w) (base := base) T).up (show 1 ≤ 3 by decide)
  refine mkCallee (fd__law_change T) (mg__law_change T) sc__law_change (fun _ _ _ _ _ _ us hl => match us, hl with | [_, _], _ => rfl) (fun vs H Q E h => ?_) (fun cdv A outer s H vs Q E hr h => ?_)
  · obtain ⟨p, z0, z1, m, rfl, _⟩ := h
    rfl
  · obtain ⟨p, z0, z1, m, rfl, hp, h0, h1, k⟩ := h
    have nd := sc__law_change.nd
    refine ⟨_, pss_cons (ps_set (i := 2) nd rfl (Or.inl rfl) (pcall C1 hr (pa_cons (pv 0) (pa_cons (pe_lst (pa_cons pe_str (pa_cons pe_str (pa_cons pe_str (pa_cons pe_str (pa_cons pe_str (pa_cons pe_str (pa_cons pe_str (pa_cons pe_str (pa_cons pe_str pa_nil)))))))))) pa_nil))))
      (pss_cons (ps_set (i := 3) nd rfl (Or.inl rfl) (pcall C1 hr (pa_cons (pv 0) (pa_cons (pe_lst (pa_cons pe_str (pa_cons pe_str (pa_cons pe_str pa_nil)))) pa_nil))))
      (pss_cons (ps_if (pt_cmpR op_eq (pv 2) pe_str (nomark _)) (pss_one (ps_ret (pe_tup (pa_cons (pv 2) (pa_cons (pv 3) (pa_cons (pe_op op_add pe_int (pcall C3 hr (pa_cons (pv 0) (pa_cons (pv 1) pa_nil)))) (pa_cons (pcall C2 hr (pa_cons (pv 0) (pa_cons (pv 1) pa_nil))) pa_nil))))))) pss_nil)
      (pss_cons (ps_if (pt_cmpR op_eq (pv 2) pe_str (nomark _)) (pss_one (ps_ret (pe_tup (pa_cons (pv 2) (pa_cons (pv 3) pa_nil))))) pss_nil)
      (pss_cons (ps_if (pt_cmpR op_eq (pv 2) pe_str (nomark _)) (pss_one (ps_ret (pe_tup (pa_cons (pv 2) (pa_cons (pv 3) (pa_cons (pcall C1 hr (pa_cons (pv 0) (pa_cons (pe_lst (pa_cons pe_str (pa_cons pe_str (pa_cons pe_str pa_nil)))) pa_nil))) pa_nil)))))) pss_nil)
      (pss_cons (ps_if (pt_cmpR op_eq (pv 2) pe_str (nomark _)) (pss_one (ps_ret (pe_tup (pa_cons (pv 2) (pa_cons (pv 3) (pa_cons (pcall C2 hr (pa_cons (pv 0) (pa_cons (pv 1) pa_nil))) pa_nil)))))) pss_nil)
      (pss_cons (ps_if (pt_cmpR op_eq (pv 2) pe_str (nomark _)) (pss_one (ps_ret (pe_tup (pa_cons (pv 2) (pa_cons (pv 3) (pa_cons (pcall C3 hr (pa_cons (pv 0) (pa_cons (pe_op op_add (pv 1) pe_int) pa_nil))) pa_nil)))))) pss_nil)
      (pss_one (ps_ret (pe_tup (pa_cons (pv 2) (pa_cons (pv 3) (pa_cons (pe_op op_add pe_int (pcall C3 hr (pa_cons (pv 0) (pa_cons (pv 1) pa_nil)))) (pa_cons (pcall C1 hr (pa_cons (pv 0) (pa_cons (pe_lst (pa_cons pe_str (pa_cons pe_str (pa_cons pe_str pa_nil)))) pa_nil))) pa_nil))))))))))))), ?_⟩
    have vfit : ∀ v, isIn m v = true → isVal v = true := fun v hv => by
      cases v with
      | non => rfl
      | int i =>
        have hv' : (decide (0 ≤ i) && decide (i ≤ m)) = true := hv
        exact (Bool.and_eq_true_iff.mp hv').1
      | _ => cases hv
    -- the kind
    refine ⟨_, rfl, (by show 9 ≤ sizeLine; decide), fun l nl => ?_⟩
    refine ⟨p, l, z0, z1, _, rfl, same_new nl _ _ hp, upd_same, npool hp nl, (by show 0 < 9; decide), (by show 9 < 1000000; decide), fun x y0 y1 hx => ?_⟩
    have b1 : But p H (upd (upd H l (.lst [.str "add", .str "drop", .str "rename", .str "default", .str "greatest", .str "greatest", .str "greatest", .str "fill", .str "fill"])) p (.lst [.int y0, .int y1])) := (But.of (same_new nl)).trans But.mut
    have p1 : upd (upd H l (.lst [.str "add", .str "drop", .str "rename", .str "default", .str "greatest", .str "greatest", .str "greatest", .str "fill", .str "fill"])) p (.lst [.int y0, .int y1]) p = some (.lst [.int y0, .int y1]) := upd_same
    generalize upd (upd H l (.lst [.str "add", .str "drop", .str "rename", .str "default", .str "greatest", .str "greatest", .str "greatest", .str "fill", .str "fill"])) p (.lst [.int y0, .int y1]) = H1 at b1 p1
    have hx' : x = .str "add" ∨ x = .str "drop" ∨ x = .str "rename" ∨ x = .str "default" ∨ x = .str "greatest" ∨ x = .str "fill" := by
      simp only [List.mem_cons, List.not_mem_nil, or_false] at hx
      rcases hx with h | h | h | h | h | h | h | h | h <;> simp [h]
    -- the name
    refine ⟨_, rfl, (by show 3 ≤ sizeLine; decide), fun l2 nl2 => ?_⟩
    refine ⟨p, l2, y0, y1, _, rfl, same_new nl2 _ _ p1, upd_same, npool p1 nl2, (by show 0 < 3; decide), (by show 3 < 1000000; decide), fun xn w0 w1 hxn => ?_⟩
    have b2 : But p H (upd (upd H1 l2 (.lst [.str "a", .str "b", .str "cc"])) p (.lst [.int w0, .int w1])) := b1.trans ((But.of (same_new nl2)).trans But.mut)
    have p2 : upd (upd H1 l2 (.lst [.str "a", .str "b", .str "cc"])) p (.lst [.int w0, .int w1]) p = some (.lst [.int w0, .int w1]) := upd_same
    generalize upd (upd H1 l2 (.lst [.str "a", .str "b", .str "cc"])) p (.lst [.int w0, .int w1]) = H2 at b2 p2
    obtain ⟨n, rfl, hn, hn3⟩ : ∃ n : Str, xn = .str n ∧ isNm (.str n) = true ∧ n ∈ nm3 := by
      rcases mem3 hxn with rfl | rfl | rfl
      · exact ⟨_, rfl, nmk (.inl rfl), by decide +kernel⟩
      · exact ⟨_, rfl, nmk (.inr (.inl rfl)), by decide +kernel⟩
      · exact ⟨_, rfl, nmk (.inr (.inr rfl)), by decide +kernel⟩
    rcases hx' with rfl | rfl | rfl | rfl | rfl | rfl
    · -- add
      refine ⟨_, rfl, rfl, _, rfl, iteDT rfl ⟨_, rfl, _, rfl, _, rfl, _, rfl, p, w0, w1, m, rfl, p2, (by omega), (by omega), fun r u0 u1 r0 r1 => ⟨_, _, rfl, rfl, ?_⟩⟩⟩
      have p3 : upd H2 p (.lst [.int u0, .int u1]) p = some (.lst [.int u0, .int u1]) := upd_same
      refine ⟨_, rfl, _, rfl, p, u0, u1, m, rfl, p3, (by omega), (by omega), fun v q0 q1 H3 hv b3 p4 => ⟨(by show 4 ≤ sizeLine; decide), fun t nt => ?_⟩⟩
      refine k t (.add n (1 + r) v) q0 q1 _ ?_ (decide_eq_true hn3) (((b2.trans But.mut).trans b3).trans (But.of (same_new nt))) (same_new nt _ _ p4) (sqT_of upd_same)
      show (isNm (.str n) && ((decide (1 ≤ 1 + r) && decide (1 + r ≤ 99)) && isVal v)) = true
      rw [hn, vfit v hv, decide_eq_true (by omega), decide_eq_true (by omega)]
      rfl
    · -- drop
      refine ⟨_, rfl, rfl, _, rfl, iteD (nes (show ("drop" : Str) ≠ "add" by decide +kernel)) ⟨_, rfl, rfl, _, rfl, iteDT rfl ⟨_, rfl, _, rfl, (by show 2 ≤ sizeLine; decide), fun t nt => ?_⟩⟩⟩
      exact k t (.drop n) w0 w1 _ hn rfl (b2.trans (But.of (same_new nt))) (same_new nt _ _ p2) (sqT_of upd_same)
    · -- rename
      refine ⟨_, rfl, rfl, _, rfl, iteD (nes (show ("rename" : Str) ≠ "add" by decide +kernel)) ⟨_, rfl, rfl, _, rfl, iteD (nes (show ("rename" : Str) ≠ "drop" by decide +kernel)) ⟨_, rfl, rfl, _, rfl, iteDT rfl ?_⟩⟩⟩
      refine ⟨_, rfl, _, rfl, _, rfl, (by show 3 ≤ sizeLine; decide), fun l3 nl3 => ?_⟩
      refine ⟨p, l3, w0, w1, _, rfl, same_new nl3 _ _ p2, upd_same, npool p2 nl3, (by show 0 < 3; decide), (by show 3 < 1000000; decide), fun xm u0 u1 hxm => ⟨(by show 3 ≤ sizeLine; decide), fun t nt => ?_⟩⟩
      obtain ⟨o, rfl, ho, ho3⟩ : ∃ o : Str, xm = .str o ∧ isNm (.str o) = true ∧ o ∈ nm3 := by
        rcases mem3 hxm with rfl | rfl | rfl
        · exact ⟨_, rfl, nmk (.inl rfl), by decide +kernel⟩
        · exact ⟨_, rfl, nmk (.inr (.inl rfl)), by decide +kernel⟩
        · exact ⟨_, rfl, nmk (.inr (.inr rfl)), by decide +kernel⟩
      refine k t (.rename n o) u0 u1 _ ?_ (decide_eq_true ho3) ((b2.trans ((But.of (same_new nl3)).trans But.mut)).trans (But.of (same_new nt))) (same_new nt _ _ upd_same) (sqT_of upd_same)
      show (isNm (.str n) && isNm (.str o)) = true
      rw [hn, ho]
      rfl
    · -- default
      refine ⟨_, rfl, rfl, _, rfl, iteD (nes (show ("default" : Str) ≠ "add" by decide +kernel)) ⟨_, rfl, rfl, _, rfl, iteD (nes (show ("default" : Str) ≠ "drop" by decide +kernel)) ⟨_, rfl, rfl, _, rfl, iteD (nes (show ("default" : Str) ≠ "rename" by decide +kernel)) ⟨_, rfl, rfl, _, rfl, iteDT rfl ?_⟩⟩⟩⟩
      refine ⟨_, rfl, _, rfl, _, rfl, _, rfl, p, w0, w1, m, rfl, p2, (by omega), (by omega), fun v q0 q1 H3 hv b3 p4 => ⟨(by show 3 ≤ sizeLine; decide), fun t nt => ?_⟩⟩
      refine k t (.dflt n v) q0 q1 _ ?_ rfl ((b2.trans b3).trans (But.of (same_new nt))) (same_new nt _ _ p4) (sqT_of upd_same)
      show (isNm (.str n) && isVal v) = true
      rw [hn, vfit v hv]
      rfl
    · -- greatest
      refine ⟨_, rfl, rfl, _, rfl, iteD (nes (show ("greatest" : Str) ≠ "add" by decide +kernel)) ⟨_, rfl, rfl, _, rfl, iteD (nes (show ("greatest" : Str) ≠ "drop" by decide +kernel)) ⟨_, rfl, rfl, _, rfl, iteD (nes (show ("greatest" : Str) ≠ "rename" by decide +kernel)) ⟨_, rfl, rfl, _, rfl, iteD (nes (show ("greatest" : Str) ≠ "default" by decide +kernel)) ⟨_, rfl, rfl, _, rfl, iteD (nes (show ("greatest" : Str) ≠ "fill" by decide +kernel)) ?_⟩⟩⟩⟩⟩
      refine ⟨_, rfl, _, rfl, _, rfl, _, rfl, p, w0, w1, m, rfl, p2, (by omega), (by omega), fun r u0 u1 r0 r1 => ⟨_, _, rfl, rfl, ?_⟩⟩
      have p3 : upd H2 p (.lst [.int u0, .int u1]) p = some (.lst [.int u0, .int u1]) := upd_same
      refine ⟨_, rfl, (by show 3 ≤ sizeLine; decide), fun l3 nl3 => ?_⟩
      refine ⟨p, l3, u0, u1, _, rfl, same_new nl3 _ _ p3, upd_same, npool p3 nl3, (by show 0 < 3; decide), (by show 3 < 1000000; decide), fun x q0 q1 hw => ⟨(by show 4 ≤ sizeLine; decide), fun t nt => ?_⟩⟩
      have hx3 : ∃ z : Str, x = .str z ∧ isWy z = true := by
        rcases mem3 hw with rfl | rfl | rfl
        · exact ⟨_, rfl, by decide +kernel⟩
        · exact ⟨_, rfl, by decide +kernel⟩
        · exact ⟨_, rfl, by decide +kernel⟩
      obtain ⟨z, rfl, hz⟩ := hx3
      refine k t (.great n (1 + r) z) q0 q1 _ ?_ rfl (((b2.trans But.mut).trans ((But.of (same_new nl3)).trans But.mut)).trans (But.of (same_new nt))) (same_new nt _ _ upd_same) (sqT_of upd_same)
      show (isNm (.str n) && ((decide (1 ≤ 1 + r) && decide (1 + r ≤ 99)) && isWy z)) = true
      rw [hn, hz, decide_eq_true (by omega), decide_eq_true (by omega)]
      rfl
    · -- fill
      refine ⟨_, rfl, rfl, _, rfl, iteD (nes (show ("fill" : Str) ≠ "add" by decide +kernel)) ⟨_, rfl, rfl, _, rfl, iteD (nes (show ("fill" : Str) ≠ "drop" by decide +kernel)) ⟨_, rfl, rfl, _, rfl, iteD (nes (show ("fill" : Str) ≠ "rename" by decide +kernel)) ⟨_, rfl, rfl, _, rfl, iteD (nes (show ("fill" : Str) ≠ "default" by decide +kernel)) ⟨_, rfl, rfl, _, rfl, iteDT rfl ?_⟩⟩⟩⟩⟩
      refine ⟨_, rfl, _, rfl, _, rfl, _, rfl, _, _, rfl, rfl, p, w0, w1, _, rfl, p2, (by omega), (by omega), fun r u0 u1 r0 r1 => ⟨(by show 3 ≤ sizeLine; decide), fun t nt => ?_⟩⟩
      refine k t (.fill n r) u0 u1 _ ?_ rfl ((b2.trans But.mut).trans (But.of (same_new nt))) (same_new nt _ _ upd_same) (sqT_of upd_same)
      show (isNm (.str n) && decide (0 ≤ r)) = true
      rw [hn, decide_eq_true r0]
      rfl
/-! a law's columns as tuples stay -/
theorem LCols.keepNL {K : PySem.W.Frag} {H H' : Hp} (s : KeepNL H H') : ∀ {as : List Addr} {cs : List Col}, LCols K H as cs → LCols K H' as cs
  | _, _, .nil => .nil
  | _, _, .cons h t => .cons (h.keepNL s) (t.keepNL s)

/-! _law_first: one or two drawn columns -/
theorem good_first {cs : List Col} {ns : List Str} (hns : ns = [("a" : Str)] ∨ ns = [("a" : Str), ("b" : Str)]) (hn : cs.map (·.name) = ns) (ok : ∀ c ∈ cs, ColOk c) (pl : Placed cs) : Good cs cs.length := by
  have e : cs.length = ns.length := by rw [← hn, List.length_map]
  have l : ns.length = 1 ∨ ns.length = 2 := by rcases hns with rfl | rfl <;> simp
  refine ⟨fun c hc => ⟨ok c hc, ?_⟩, by omega, by omega, ?_, by omega⟩
  · obtain ⟨i, hi⟩ := List.mem_iff_getElem?.mp hc
    have := pl i c hi
    have := (List.getElem?_eq_some_iff.mp hi).1
    omega
  · rw [hn]
    rcases hns with rfl | rfl <;> decide +kernel
def sp_law_first (K : PySem.W.Frag) : Sp := fun vs H Q _ => ∃ (p : Addr) (z0 z1 m : Int), vs = [.ref p, .int m] ∧ H p = some (.lst [.int z0, .int z1]) ∧ 1 ≤ m ∧ m ≤ 99 ∧
  ∀ (l : Addr) (as : List Addr) (cs : List Col) (y0 y1 : Int) (H' : Hp), H l = none → But p H H' → H' p = some (.lst [.int y0, .int y1]) → H' l = some (.lst (as.map V.ref)) → LCols K H' as cs → Good cs cs.length → Placed cs → cs.length ≤ 2 → (∀ c ∈ cs, c.name ∈ nm3) → Q (.ref l) H'
theorem ok_law_first (T : Tx K mg) : Callee P w K mg base CX0 4 "_law_first" ["_law_pool_here", "_law_most"] [] (sp_law_first K) := by
  have C2 := ok_value (P := P) (w := w) (base := base) T
  have C3 := (ok_draw (P := P) (w := w) (base := base) T).up (show 1 ≤ 3 by decide)
  refine mkCallee (fd__law_first T) (mg__law_first T) sc__law_first (fun _ _ _ _ _ _ us hl => match us, hl with | [_, _], _ => rfl) (fun vs H Q E h => ?_) (fun cdv A outer s H vs Q E hr h => ?_)
  · obtain ⟨p, z0, z1, m, rfl, _⟩ := h
    rfl
  · obtain ⟨p, z0, z1, m, rfl, hp, h0, h1, k⟩ := h
    have nd := sc__law_first.nd
    refine ⟨_, pss_cons (ps_set (i := 2) nd rfl (Or.inl rfl) (pe_lst pa_nil))
      (pss_cons (ps_for PassesOwn.never rfl (pi_list (pe_slice sl_list (pe_lst (pa_cons pe_str (pa_cons pe_str pa_nil))) po_none (po_some (pe_op op_add pe_int (pcall C3 hr (pa_cons (pv 0) (pa_cons pe_int pa_nil))))))) (pg_name (i := 3) nd rfl (Or.inl rfl))
        (pss_cons (ps_set (i := 4) nd rfl (Or.inl rfl) (pe_op op_add pe_int (pcall C3 hr (pa_cons (pv 0) (pa_cons (pv 1) pa_nil)))))
        (pss_one (ps_expr (pe_bm PySem.F.plainAttrs_list PySem.F.slot_list_append PySem.F.type_list_append mt_append (pv 2) (pa_cons (pe_tup (pa_cons (pv 3) (pa_cons (pv 4) (pa_cons (pcall C2 hr (pa_cons (pv 0) (pa_cons (pv 4) pa_nil))) (pa_cons (pe_callB call_len (by rfl) (fr_len T) PySem.boot_len (pa_cons (pv 2) pa_nil)) pa_nil))))) pa_nil))))))
      (pss_one (ps_ret (pv 2)))), ?_⟩
    refine q_asgX ⟨by decide, fun l nl => ?_⟩
    have b0 : But p H (upd H l (.lst [])) := But.of (same_new nl)
    have hp0 : upd H l (.lst []) p = some (.lst [.int z0, .int z1]) := same_new nl _ _ hp
    have hl0 : upd H l (.lst []) l = some (.lst []) := upd_same
    have npl : l ≠ p := fun e => by rw [e, hp] at nl; cases nl
    generalize upd H l (.lst []) = H1 at b0 hp0 hl0
    refine ⟨by show 2 ≤ sizeLine; decide, fun q0 nq0 => ?_⟩
    refine ⟨_, rfl, p, z0, z1, 2, rfl, same_new nq0 _ _ hp0, by decide, by decide, fun r u0 u1 r0 r1 => ⟨_, _, rfl, rfl, _, rfl, q0, [.str "a", .str "b"], rfl, sqL_of ?_, fun q nq => ?_⟩⟩
    · rw [upd_ne (npool0 hp0 nq0)]
      exact upd_same
    have nqp : q ≠ p := npool0 upd_same nq
    have nlq0 : l ≠ q0 := ne_of_none hl0 nq0
    obtain ⟨ns, hns, hcut⟩ : ∃ ns : List Str, (ns = [("a" : Str)] ∨ ns = [("a" : Str), ("b" : Str)]) ∧ cutV [.str "a", .str "b"] none (some (1 + r)) = ns.map V.str := by
      have : r = 0 ∨ r = 1 := by omega
      rcases this with rfl | rfl
      · exact ⟨_, .inl rfl, rfl⟩
      · exact ⟨_, .inr rfl, rfl⟩
    rw [hcut]
    have b1 : But p H (upd (upd (upd H1 q0 (.lst [V.str "a", .str "b"])) p (.lst [.int u0, .int u1])) q (.lst (ns.map V.str))) := ((b0.trans (But.of (same_new nq0))).trans But.mut).trans (But.of (same_new nq))
    have hq1 : upd (upd (upd H1 q0 (.lst [V.str "a", .str "b"])) p (.lst [.int u0, .int u1])) q (.lst (ns.map V.str)) q = some (.lst (ns.map V.str)) := upd_same
    have hp1 : upd (upd (upd H1 q0 (.lst [V.str "a", .str "b"])) p (.lst [.int u0, .int u1])) q (.lst (ns.map V.str)) p = some (.lst [.int u0, .int u1]) := same_new nq _ _ upd_same
    have hl1 : upd (upd (upd H1 q0 (.lst [V.str "a", .str "b"])) p (.lst [.int u0, .int u1])) q (.lst (ns.map V.str)) l = some (.lst []) := by
      refine same_new nq _ _ ?_
      rw [upd_ne npl]
      exact same_new nq0 _ _ hl0
    have nlq : l ≠ q := by
      intro e
      rw [← e, upd_ne npl, upd_ne nlq0, hl0] at nq
      cases nq
    generalize upd (upd (upd H1 q0 (.lst [V.str "a", .str "b"])) p (.lst [.int u0, .int u1])) q (.lst (ns.map V.str)) = H2 at b1 hq1 hp1 hl1
    clear hl0 hp0 b0 nq nlq0 nq0
    refine ⟨q, rfl, ⟨_, sqL_of hq1⟩, ?_⟩
    refine for_list (xs := ns.map V.str) (fun i σ H' => ∃ (as : List Addr) (cs : List Col) (y0 y1 : Int) (x3 x4 : Option V), σ = [some (.ref p), some (.int m), some (.ref l), x3, x4] ∧ But p H H' ∧ H' q = some (.lst (ns.map V.str)) ∧ H' p = some (.lst [.int y0, .int y1]) ∧ H' l = some (.lst (as.map V.ref)) ∧
      LCols K H' as cs ∧ cs.map (·.name) = ns.take i ∧ (∀ c ∈ cs, ColOk c) ∧ Placed cs) ⟨[], [], u0, u1, none, none, rfl, b1, hq1, hp1, hl1, .nil, rfl, (fun c hc => by cases hc), (fun i c hc => by simp at hc)⟩ (fun i σ H' _ h => ?_) ?_ ?_
    · obtain ⟨as, cs, y0, y1, x3, x4, _, _, hq', _⟩ := h
      exact sqL_of hq'
    · rintro i x σ H' hx ⟨as, cs, y0, y1, x3, x4, rfl, b', hq', hp', hl', hc', hn', ok', pl'⟩
      rw [List.getElem?_map] at hx
      cases hi : ns[i]? with
      | none =>
        rw [hi] at hx
        cases hx
      | some n =>
        rw [hi] at hx
        obtain rfl := Option.some.inj hx
        have hil := (List.getElem?_eq_some_iff.mp hi).1
        have hcl : cs.length = i := by
          have := congrArg List.length hn'
          rw [List.length_map, List.length_take] at this
          omega
        have hnl : ns.length ≤ 2 := by rcases hns with rfl | rfl <;> simp
        have hnm : isNm (.str n) = true := by
          have hm := List.mem_of_getElem? hi
          rcases hns with rfl | rfl
          · rw [List.mem_singleton] at hm
            exact hm ▸ (by decide +kernel)
          · rcases List.mem_cons.mp hm with e | hm
            · exact e ▸ (by decide +kernel)
            · rw [List.mem_singleton] at hm
              exact hm ▸ (by decide +kernel)
        refine ⟨_, rfl, _, rfl, p, y0, y1, m, rfl, hp', by omega, by omega, fun r u0 u1 r0 r1 => ⟨_, _, rfl, rfl, ?_⟩⟩
        have b2 : But p H (upd H' p (.lst [.int u0, .int u1])) := b'.trans But.mut
        have hq2 : upd H' p (.lst [.int u0, .int u1]) q = some (.lst (ns.map V.str)) := by rw [upd_ne nqp]; exact hq'
        have hp2 : upd H' p (.lst [.int u0, .int u1]) p = some (.lst [.int u0, .int u1]) := upd_same
        have hl2 : upd H' p (.lst [.int u0, .int u1]) l = some (.lst (as.map V.ref)) := by rw [upd_ne npl]; exact hl'
        have hc2 := hc'.keepNL (KeepNL.ofBut hp' (But.mut (o := .lst [.int u0, .int u1])))
        generalize upd H' p (.lst [.int u0, .int u1]) = H3 at b2 hq2 hp2 hl2 hc2
        refine ⟨_, rfl, .inl ⟨rfl, _, sqL_of hl2⟩, _, rfl, _, rfl, _, rfl, _, rfl, p, u0, u1, _, rfl, hp2, by omega, by omega, fun v w0 w1 H4 hv b4 hp4 => ?_⟩
        have hl4 := b4 _ _ npl hl2
        have hq4 := b4 _ _ nqp hq2
        have hc4 := hc2.keepNL (KeepNL.ofBut hp2 b4)
        refine ⟨_, rfl, _, as.length, rfl, .inl ⟨_, sqL_of hl4, by rw [List.length_map]⟩, by show 4 ≤ sizeLine; decide, fun t nt => ?_⟩
        have hl5 : upd H4 t (.tup [.str n, .int (1 + r), v, .int (as.length : Nat)]) l = some (.lst (as.map V.ref)) := same_new nt _ _ hl4
        have ntl : l ≠ t := ne_of_none hl4 nt
        refine ⟨l, _, _, rfl, rfl, hl5, ?_, as ++ [t], cs ++ [⟨n, 1 + r, v, (as.length : Nat)⟩], w0, w1, _, _, rfl, ?_, ?_, ?_, ?_, ?_, ?_, ?_, ?_⟩
        · rw [List.length_map, hc'.len, hcl]
          have e : sizeLine = 16777216 := by decide
          omega
        · exact fun c o hc e => by
            have hcl2 : c ≠ l := ne_of_none e nl
            rw [upd_ne hcl2]
            exact same_new nt _ _ (b4 _ _ hc (b2 _ _ hc e))
        · rw [upd_ne nlq.symm]
          exact same_new nt _ _ hq4
        · rw [upd_ne npl.symm]
          exact same_new nt _ _ hp4
        · rw [upd_same, List.map_append]
          rfl
        · have k5 := (KeepNL.of (same_new (o := .tup [.str n, .int (1 + r), v, .int (as.length : Nat)]) nt))
          have k6 : KeepNL (upd H4 t (.tup [.str n, .int (1 + r), v, .int (as.length : Nat)])) _ := KeepNL.lst hl5 (ys := as.map V.ref ++ [.ref t])
          refine ((hc4.keepNL k5).keepNL k6).app (.cons ?_ .nil)
          exact k6 _ _ (fun _ z => by cases z) upd_same
        · rw [List.map_append, hn', List.take_add_one, hi]
          rfl
        · intro c hc
          rcases List.mem_append.mp hc with hc | hc
          · exact ok' c hc
          · cases List.mem_singleton.mp hc
            refine ⟨hnm, ?_, hv, by show (0 : Int) ≤ (as.length : Nat); omega⟩
            show (decide (1 ≤ 1 + r) && decide (1 + r ≤ 99)) = true
            rw [decide_eq_true (by omega), decide_eq_true (by omega)]
            rfl
        · intro j c hj
          by_cases hjl : j < cs.length
          · rw [List.getElem?_append_left hjl] at hj
            exact pl' j c hj
          · have hje : j = cs.length := by
              have h := (List.getElem?_eq_some_iff.mp hj).1
              rw [List.length_append] at h
              have : ([⟨n, 1 + r, v, (as.length : Nat)⟩] : List Col).length = 1 := rfl
              omega
            subst hje
            rw [List.getElem?_append_right (Nat.le_refl _), Nat.sub_self] at hj
            obtain rfl := Option.some.inj hj
            show ((as.length : Nat) : Int) = _
            rw [hc'.len]
    · rintro σ H' ⟨as, cs, y0, y1, x3, x4, rfl, b', hq', hp', hl', hc', hn', ok', pl'⟩
      rw [List.length_map, List.take_length] at hn'
      refine ⟨_, rfl, k l as cs y0 y1 H' nl b' hp' hl' hc' (good_first hns hn' ok' pl') pl' ?_ fun c hc => ?_⟩
      · have := congrArg List.length hn'
        rw [List.length_map] at this
        rw [this]
        rcases hns with rfl | rfl <;> simp
      · have hm : c.name ∈ ns := by
          rw [← hn']
          exact List.mem_map_of_mem hc
        rcases hns with rfl | rfl
        · rw [List.mem_singleton.mp hm]
          decide +kernel
        · rcases List.mem_cons.mp hm with e | hm
          · rw [e]
            decide +kernel
          · rw [List.mem_singleton.mp hm]
            decide +kernel
/-! _law_cols -/
def sp_lcols (K : PySem.W.Frag) : Sp := fun vs H Q _ => ∃ (l : Addr) (as : List Addr) (cs : List Col), vs = [.ref l] ∧ H l = some (.lst (as.map V.ref)) ∧ LCols K H as cs ∧ as.length ≤ 1000 ∧ (∀ c ∈ cs, ColOk c) ∧
  ∀ (l' : Addr) (as' : List Addr) (H' : Hp), H l' = none → Same H H' → H' l' = some (.lst (as'.map V.ref)) → Cols K H' as' cs → Q (.ref l') H'
theorem ok_lcols (T : Tx K mg) : Callee P w K mg base CX0 6 "_law_cols" ["_law_cols_here"] [] (sp_lcols K) := by
  obtain ⟨fdI, GI, FI⟩ := ok_Col_init (P := P) (w := w) (base := base) T
  obtain ⟨_, _, kb⟩ := kbinds_Col T FI
  refine mkCallee (fd__law_cols T) (mg__law_cols T) sc__law_cols (fun _ _ _ _ _ _ us hl => match us, hl with | [_], _ => rfl) (fun vs H Q E h => ?_) (fun cdv A outer s H vs Q E hr h => ?_)
  · obtain ⟨l, as, cs, rfl, _⟩ := h
    rfl
  · obtain ⟨l, as, cs, rfl, hl, hc, hlen, hok, k⟩ := h
    have nd := sc__law_cols.nd
    refine ⟨_, pss_one (ps_ret (pe_lc (own := [("_law_col", 1)]) (g := gName 1) (tt := tYes) (te := tMakeK (He.ga K "Column") 3 (["number"] : List Str).length (sp_Col_init K) (fun vs zs => vs ++ zs) E0 (tCons (tOp (rIxT K) (tVar 1) (tC (.int 0))) (tCons (tOp (rIxT K) (tVar 1) (tC (.int 1))) (tCons (tOp (rIxT K) (tVar 1) (tC (.int 2))) tNil))) (tCons (tOp (rIxT K) (tVar 1) (tC (.int 3))) tNil)) rfl nd (pi_list (pv 0)) (blkOk_by (N := ["_law_cols_here", "_law_col"]) (sc := defScope s__law_cols) (by decide +kernel))
        (fun _ _ _ _ _ => pg_name (i := 1) nd rfl (Or.inl rfl)) (fun _ _ _ _ _ => pts_nil) (fun _ _ _ _ _ => pe_makeK (mk_Column T) GI hr (by rfl) (mg_Column T) kb pass0 (pa_cons (pe_ix ix_tup (pv 1) pe_int (fun _ _ => rfl)) (pa_cons (pe_ix ix_tup (pv 1) pe_int (fun _ _ => rfl)) (pa_cons (pe_ix ix_tup (pv 1) pe_int (fun _ _ => rfl)) pa_nil))) (pk_cons (pe_ix ix_tup (pv 1) pe_int (fun _ _ => rfl)) pk_nil)))), ?_⟩
    refine tlc_G (K := K) (xs := as.map V.ref) (fun i y H' => ∃ a c, y = .ref a ∧ cs[i]? = some c ∧ ColA K H' a c) (fun i y H1 H2 s2 ⟨a, c, h1, h2, h3⟩ => ⟨a, c, h1, h2, h3.keepNL s2⟩) (fun R h => ⟨_, rfl, h l H (Same.refl _) (sqL_of hl)⟩) (by rw [List.length_map]; omega) (fun _ => rfl) ?_ ?_
    · intro i x hx H1 s1 R hR
      rw [List.getElem?_map] at hx
      cases ha : as[i]? with
      | none =>
        rw [ha] at hx
        cases hx
      | some a =>
        rw [ha] at hx
        obtain rfl := Option.some.inj hx
        obtain ⟨c, hci, hat⟩ := hc.at_ ha
        have ok := hok c (List.mem_of_getElem? hci)
        have h1 := sqT_of (K := K) (hat.keep s1)
        refine ⟨_, rfl, a, _, 0, _, rfl, rfl, h1, rfl, _, rfl, a, _, 1, _, rfl, rfl, h1, rfl, _, rfl, a, _, 2, _, rfl, rfl, h1, rfl, _, rfl, a, _, 3, _, rfl, rfl, h1, rfl, rfl, rfl, fun x dx2 nx ndx ndc => ?_⟩
        refine ⟨x, dx2, c.name, c.top, c.num, c.dflt, rfl, upd_same, ok.nm, ok.gr, ok.df, ok.nu, fun H4 hc4 k4 => ⟨rfl, ?_⟩⟩
        exact hR _ _ (fun b o e => k4 b o (ne_of_none e nx) (by rw [upd_ne (ne_of_none e nx), upd_ne (ne_of_none e ndx)]; exact e)) ⟨x, c, rfl, hci, hc4⟩
    · intro D ys H' nD s' hD hlen' hy
      obtain ⟨as', rfl, hcs⟩ := Cols.of_vs (by rw [hlen', List.length_map, hc.len]) hy
      exact k D as' H' nD s' hD hcs
/-! _law_made; a law's history as a dict -/
def lhDict (sh ch : Addr) (n : Int) : List (Key × V) := [(Sum.inr "sheets", .ref sh), (Sum.inr "changes", .ref ch), (Sum.inr "given", .int n)]
theorem lh_vals (sh ch : Addr) (n : Int) : valV (lhDict sh ch n) (Sum.inr "sheets") = some (.ref sh) ∧ valV (lhDict sh ch n) (Sum.inr "changes") = some (.ref ch) ∧ valV (lhDict sh ch n) (Sum.inr "given") = some (.int n) := by
  have h1 : ¬ ((Sum.inr "sheets" : Key) = (Sum.inr "changes" : Key)) := by decide +kernel
  have h2 : ¬ ((Sum.inr "sheets" : Key) = (Sum.inr "given" : Key)) := by decide +kernel
  have h3 : ¬ ((Sum.inr "changes" : Key) = (Sum.inr "given" : Key)) := by decide +kernel
  unfold lhDict
  refine ⟨valV_pos rfl, ?_, ?_⟩
  · simp [valV, h1]
  · simp [valV, h2, h3]
/-- the law's sheets: lists of its columns -/
inductive Sheets (K : PySem.W.Frag) (H : Hp) : List Addr → List (List Col) → Prop
  | nil : Sheets K H [] []
  | cons {e : Addr} {es : List Addr} {cs : List Col} {eds : List (List Col)} (as : List Addr) : H e = some (.lst (as.map V.ref)) → LCols K H as cs → Sheets K H es eds → Sheets K H (e :: es) (cs :: eds)
theorem Sheets.keep {K : PySem.W.Frag} {H H' : Hp} (s : Same H H') : ∀ {es : List Addr} {eds : List (List Col)}, Sheets K H es eds → Sheets K H' es eds
  | _, _, .nil => .nil
  | _, _, .cons as h c t => .cons as (s _ _ h) (c.keep s) (t.keep s)
theorem Sheets.len {K : PySem.W.Frag} {H : Hp} : ∀ {es : List Addr} {eds : List (List Col)}, Sheets K H es eds → es.length = eds.length
  | _, _, .nil => rfl
  | _, _, .cons _ _ _ t => congrArg Nat.succ t.len
theorem Sheets.at_ {K : PySem.W.Frag} {H : Hp} : ∀ {es : List Addr} {eds : List (List Col)} {i : Nat} {e : Addr}, Sheets K H es eds → es[i]? = some e → ∃ cs as, eds[i]? = some cs ∧ H e = some (.lst (as.map V.ref)) ∧ LCols K H as cs
  | _, _, _, _, .nil, e => by simp at e
  | _, _, 0, _, .cons as h c t, e => by
    simp at e
    subst e
    exact ⟨_, as, rfl, h, c⟩
  | _, _, i + 1, a, .cons as h c t, e => by
    obtain ⟨cs, as', h1, h2⟩ := Sheets.at_ (i := i) (e := a) t (by simpa using e)
    exact ⟨cs, as', by simpa using h1, h2⟩
/-- the law's history stands at h -/
def LhAt (K : PySem.W.Frag) (H : Hp) (h : Addr) (cs : List Col) (chs : List Ch) : Prop := ∃ (sh ch : Addr) (es ts : List Addr), H h = some (.dK (lhDict sh ch (atC cs chs).2)) ∧ H sh = some (.lst (es.map V.ref)) ∧ Sheets K H es (edsTo cs chs (chs.length + 1)) ∧ H ch = some (.lst (ts.map V.ref)) ∧ Chs K H ts chs
theorem LhAt.keep {K : PySem.W.Frag} {H H' : Hp} {h : Addr} {cs : List Col} {chs : List Ch} (s : Same H H') (q : LhAt K H h cs chs) : LhAt K H' h cs chs := by
  obtain ⟨sh, ch, es, ts, h1, h2, h3, h4, h5⟩ := q
  exact ⟨sh, ch, es, ts, s _ _ h1, s _ _ h2, h3.keep s, s _ _ h4, h5.keep s⟩
def sp_made (K : PySem.W.Frag) : Sp := fun vs H Q _ => ∃ (h : Addr) (cs : List Col) (chs : List Ch), vs = [.ref h] ∧ LhAt K H h cs chs ∧ HistOk cs chs ∧ ∀ (h' : Addr) (H' : Hp), H h' = none → Same H H' → HistN K H H' h' cs chs → Q (.ref h') H'
theorem ok_made (T : Tx K mg) : Callee P w K mg base CX0 13 "_law_made" ["_law_h"] [] (sp_made K) := by
  have C1 := (ok_lcols (P := P) (w := w) (base := base) T).up (show 6 ≤ 12 by decide)
  obtain ⟨fdI, GI, FI⟩ := ok_Hist_init (P := P) (w := w) (base := base) T
  have bI : Binds K fdI ["self", "columns", "changes"] [] := by
    have h := FI.binds1 (ps := ["self", "columns", "changes"]) 3 1 (by intro z; cases z) rfl (fun TT kV doc pm an cdv ct us its h1 h2 => ?_)
    · obtain ⟨ds, v, b⟩ := h
      cases ds with
      | nil => exact b
      | cons _ _ => cases v
    · match us, h1, its, h2 with
      | [u0, u1, u2], _, [i0], _ => exact ⟨_, rfl, rfl⟩
  refine mkCallee (fd__law_made T) (mg__law_made T) sc__law_made (fun _ _ _ _ _ _ us hl => match us, hl with | [_], _ => rfl) (fun vs H Q E h => ?_) (fun cdv A outer s H vs Q E hr h => ?_)
  · obtain ⟨h, cs, chs, rfl, _⟩ := h
    rfl
  · obtain ⟨h, cs, chs, rfl, ⟨sh, ch, es, ts, h1, h2, h3, h4, h5⟩, ok, k⟩ := h
    obtain ⟨v1, v2, v3⟩ := lh_vals sh ch (atC cs chs).2
    refine ⟨_, pss_one (ps_ret (pe_make (mk_History T) GI hr (by rfl) (mg_History T) bI .nil pass0 (pa_cons (pcall C1 hr (pa_cons (pe_ix ix_list (pe_dget (hu_of hr) (pv 0) pe_str (fun _ _ => rfl)) pe_int (fun _ _ => rfl)) pa_nil)) (pa_cons (pe_dget (hu_of hr) (pv 0) pe_str (fun _ _ => rfl)) pa_nil)))), ?_⟩
    have hlen : es.length = chs.length + 1 := by rw [h3.len, edsTo_len]
    have e0 : es[0]? = some es[0] := List.getElem?_eq_getElem (by omega)
    obtain ⟨cs0, as, hcs, hea, hc⟩ := h3.at_ e0
    rw [edsTo_get (by omega)] at hcs
    obtain rfl : cs = cs0 := Option.some.inj hcs
    have a0 : atI (es.map V.ref) 0 = some (.ref es[0]) := by
      unfold atI
      rw [ixN_ok (Int.le_refl _) (by rw [List.length_map]; omega)]
      show (es.map V.ref)[0]? = _
      rw [List.getElem?_map, e0]
      rfl
    have six := ok.g.six
    refine ⟨_, rfl, h, .ref sh, rfl, (by rw [← v1]; exact DGet.k (k := Sum.inr "sheets") h1), sh, _, 0, _, rfl, rfl, sqL_of h2, a0, es[0], as, cs, rfl, hea, hc, by rw [hc.len]; omega, fun c hcm => (ok.g.ok c hcm).1, fun l' as' H1 n1 s1 hl' hc' => ?_⟩
    refine ⟨_, rfl, h, .ref ch, rfl, (by rw [← v2]; exact DGet.k (k := Sum.inr "changes") (s1 _ _ h1)), fun x dx nx ndx ndc => ?_⟩
    have s2 : Same H1 (upd (upd H1 dx (.own x)) x (.ins (He.ga K "History") dx [])) := fun b o e => by
      rw [upd_ne (ne_of_none e nx), upd_ne (ne_of_none e ndx)]
      exact e
    refine ⟨x, dx, l', ch, as', ts, cs, chs, rfl, upd_same, s2 _ _ hl', hc'.keep s2, s2 _ _ (s1 _ _ h4), (h5.keep s1).keep s2, fun c hcm => (ok.g.ok c hcm).1, by rw [numb_placed ok.pl]; exact ok, fun H' hA kp => ⟨rfl, ?_⟩⟩
    rw [numb_placed ok.pl] at hA
    obtain ⟨dx', e', c', b', d', es', ts', hA, hb', hd'⟩ := hA
    exact k x H' (s1.free nx) (fun b o e => kp b o (ne_of_none (s1 _ _ e) nx) (s2 _ _ (s1 _ _ e))) ⟨dx', e', c', b', d', es', ts', hA, (s1.trans s2).free hb', (s1.trans s2).free hd'⟩
/-! _law_history: the law's history, drawn -/
theorem LCols.keepT {K : PySem.W.Frag} {H H' : Hp} (s : KeepT H H') : ∀ {as : List Addr} {cs : List Col}, LCols K H as cs → LCols K H' as cs
  | _, _, .nil => .nil
  | _, _, .cons h t => .cons (s _ _ (fun _ z => by cases z) (fun _ z => by cases z) h) (t.keepT s)
theorem Sheets.keepT {K : PySem.W.Frag} {H H' : Hp} (s : KeepT H H') : ∀ {es : List Addr} {eds : List (List Col)}, (∀ e ∈ es, ∀ o, H e = some o → H' e = some o) → Sheets K H es eds → Sheets K H' es eds
  | _, _, _, .nil => .nil
  | _, _, k, .cons as h c t => .cons as (k _ List.mem_cons_self _ h) (c.keepT s) (t.keepT s fun e he => k e (List.mem_cons_of_mem _ he))
theorem Sheets.app {K : PySem.W.Frag} {H : Hp} : ∀ {es fs : List Addr} {eds ffs : List (List Col)}, Sheets K H es eds → Sheets K H fs ffs → Sheets K H (es ++ fs) (eds ++ ffs)
  | _, _, _, _, .nil, h => h
  | _, _, _, _, .cons as h c t, q => .cons as h c (t.app q)
theorem lh_put {sh ch : Addr} {n m : Int} : putK (lhDict sh ch n) (Sum.inr "given") (.int m) = lhDict sh ch m := by
  have h1 : ¬ ((Sum.inr "sheets" : Key) = (Sum.inr "given" : Key)) := by decide +kernel
  have h2 : ¬ ((Sum.inr "changes" : Key) = (Sum.inr "given" : Key)) := by decide +kernel
  simp [lhDict, putK, h1, h2]
theorem lh_merge {sh ch : Addr} {n : Int} : mergeK [] [(Sum.inr "sheets", .ref sh), (Sum.inr "changes", .ref ch), (Sum.inr "given", .int n)] = lhDict sh ch n := by
  have h1 : ¬ ((Sum.inr "sheets" : Key) = (Sum.inr "changes" : Key)) := by decide +kernel
  have h2 : ¬ ((Sum.inr "sheets" : Key) = (Sum.inr "given" : Key)) := by decide +kernel
  have h3 : ¬ ((Sum.inr "changes" : Key) = (Sum.inr "given" : Key)) := by decide +kernel
  simp [mergeK, putK, lhDict, h1, h2, h3]
/-- what the law's history is while it is drawn: its dict, its two lists, the sheets -/
structure LhI (K : PySem.W.Frag) (p h sh ca : Addr) (cs : List Col) (chs : List Ch) (es ts : List Addr) (g : Int) (H : Hp) : Prop where
  d : H h = some (.dK (lhDict sh ca g))
  s : H sh = some (.lst (es.map V.ref))
  S : Sheets K H es (edsTo cs chs (chs.length + 1))
  c : H ca = some (.lst (ts.map V.ref))
  C : Chs K H ts chs
  n : ∀ e ∈ es, e ≠ p ∧ e ≠ sh ∧ e ≠ ca
  sp : sh ≠ p
  cp : ca ≠ p
  sc : sh ≠ ca
theorem LhI.but {K : PySem.W.Frag} {p h sh ca : Addr} {cs : List Col} {chs : List Ch} {es ts : List Addr} {g : Int} {H H' : Hp} {zs : List V} (q : LhI K p h sh ca cs chs es ts g H) (hp : H p = some (.lst zs)) (b : But p H H') : LhI K p h sh ca cs chs es ts g H' where
  d := b _ _ (fun e => by have := q.d; rw [e, hp] at this; cases this) q.d
  s := b _ _ q.sp q.s
  S := q.S.keepT (KeepT.but hp b) fun e he o ho => b _ _ (q.n e he).1 ho
  c := b _ _ q.cp q.c
  C := q.C.keepT (KeepT.but hp b)
  n := q.n
  sp := q.sp
  cp := q.cp
  sc := q.sc
theorem Sheets.lst {K : PySem.W.Frag} {H : Hp} : ∀ {es : List Addr} {eds : List (List Col)}, Sheets K H es eds → ∀ e ∈ es, ∃ zs, H e = some (.lst zs)
  | _, _, .nil, _, he => by cases he
  | _, _, .cons as h c t, e, he => by
    rcases List.mem_cons.mp he with rfl | he
    · exact ⟨_, h⟩
    · exact t.lst e he
theorem LhI.hs {K : PySem.W.Frag} {p h sh ca : Addr} {cs : List Col} {chs : List Ch} {es ts : List Addr} {g : Int} {H : Hp} (q : LhI K p h sh ca cs chs es ts g H) : sh ≠ h ∧ ca ≠ h ∧ ∀ e ∈ es, e ≠ h := by
  refine ⟨fun e => ?_, fun e => ?_, fun a ha e => ?_⟩
  · have := q.s
    rw [e, q.d] at this
    cases this
  · have := q.c
    rw [e, q.d] at this
    cases this
  · obtain ⟨zs, hz⟩ := q.S.lst a ha
    rw [e, q.d] at hz
    cases hz
theorem LhI.given {K : PySem.W.Frag} {p h sh ca : Addr} {cs : List Col} {chs : List Ch} {es ts : List Addr} {g : Int} {H : Hp} (q : LhI K p h sh ca cs chs es ts g H) (m : Int) : LhI K p h sh ca cs chs es ts m (upd H h (.dK (lhDict sh ca m))) where
  d := upd_same
  s := by rw [upd_ne q.hs.1]; exact q.s
  S := q.S.keepT (KeepT.dct q.d) fun e he o ho => by rw [upd_ne (q.hs.2.2 e he)]; exact ho
  c := by rw [upd_ne q.hs.2.1]; exact q.c
  C := q.C.keepT (KeepT.dct q.d)
  n := q.n
  sp := q.sp
  cp := q.cp
  sc := q.sc
theorem LhI.same {K : PySem.W.Frag} {p h sh ca : Addr} {cs : List Col} {chs : List Ch} {es ts : List Addr} {g : Int} {H H' : Hp} (q : LhI K p h sh ca cs chs es ts g H) (s : Same H H') : LhI K p h sh ca cs chs es ts g H' where
  d := s _ _ q.d
  s := s _ _ q.s
  S := q.S.keep s
  c := s _ _ q.c
  C := q.C.keep s
  n := q.n
  sp := q.sp
  cp := q.cp
  sc := q.sc
theorem LhI.more {K : PySem.W.Frag} {p h sh ca : Addr} {cs : List Col} {chs : List Ch} {es ts : List Addr} {g : Int} {H : Hp} (q : LhI K p h sh ca cs chs es ts g H) {l t : Addr} {as : List Addr} {ch : Ch} (g' : Int) (hl : H l = some (.lst (as.map V.ref))) (hc : LCols K H as (behind (atC cs chs).1 ch (atC cs chs).2))
    (ht : ChAt K H t ch) (n : l ≠ p ∧ l ≠ sh ∧ l ≠ ca) : LhI K p h sh ca cs (chs ++ [ch]) (es ++ [l]) (ts ++ [t]) g' (upd (upd (upd H sh (.lst (es.map V.ref ++ [.ref l]))) ca (.lst (ts.map V.ref ++ [.ref t]))) h (.dK (lhDict sh ca g'))) := by
  have k1 : KeepT H (upd H sh (.lst (es.map V.ref ++ [.ref l]))) := KeepT.lst q.s
  have hca : upd H sh (.lst (es.map V.ref ++ [.ref l])) ca = some (.lst (ts.map V.ref)) := by rw [upd_ne q.sc.symm]; exact q.c
  have k2 := k1.trans (KeepT.lst hca (o := .lst (ts.map V.ref ++ [.ref t])))
  have hh : upd (upd H sh (.lst (es.map V.ref ++ [.ref l]))) ca (.lst (ts.map V.ref ++ [.ref t])) h = some (.dK (lhDict sh ca g)) := by
    rw [upd_ne q.hs.2.1.symm, upd_ne q.hs.1.symm]
    exact q.d
  have k3 := k2.trans (KeepT.dct hh (o := .dK (lhDict sh ca g')))
  have lh : l ≠ h := fun e => by rw [e, q.d] at hl; cases hl
  refine ⟨upd_same, ?_, ?_, ?_, ?_, ?_, q.sp, q.cp, q.sc⟩
  · rw [upd_ne q.hs.1, upd_ne q.sc, upd_same, List.map_append]
    rfl
  · rw [edsTo_app]
    refine Sheets.app (q.S.keepT k3 fun e he o ho => ?_) (.cons as ?_ (hc.keepT k3) .nil)
    · rw [upd_ne (q.hs.2.2 e he), upd_ne (q.n e he).2.2, upd_ne (q.n e he).2.1]
      exact ho
    · rw [upd_ne lh, upd_ne n.2.2, upd_ne n.2.1]
      exact hl
  · rw [upd_ne q.hs.2.1, upd_same, List.map_append]
    rfl
  · exact (q.C.keepT k3).app (.cons (sqT_keepT k3 ht) .nil)
  · intro e he
    rcases List.mem_append.mp he with he | he
    · exact q.n e he
    · rw [List.mem_singleton] at he
      rw [he]
      exact n
theorem lh_get {K : PySem.W.Frag} {p h sh ca : Addr} {cs : List Col} {chs : List Ch} {es ts : List Addr} {g : Int} {H : Hp} (q : LhI K p h sh ca cs chs es ts g H) : DGet H h (.str "sheets") (some (.ref sh)) ∧ DGet H h (.str "changes") (some (.ref ca)) ∧ DGet H h (.str "given") (some (.int g)) := by
  obtain ⟨v1, v2, v3⟩ := lh_vals sh ca g
  refine ⟨?_, ?_, ?_⟩
  · rw [← v1]; exact DGet.k (k := Sum.inr "sheets") q.d
  · rw [← v2]; exact DGet.k (k := Sum.inr "changes") q.d
  · rw [← v3]; exact DGet.k (k := Sum.inr "given") q.d
/-- the present sheet -/
theorem LhI.last {K : PySem.W.Frag} {p h sh ca : Addr} {cs : List Col} {chs : List Ch} {es ts : List Addr} {g : Int} {H : Hp} (q : LhI K p h sh ca cs chs es ts g H) : ∃ e as, e ∈ es ∧ atI (es.map V.ref) (-1) = some (.ref e) ∧ H e = some (.lst (as.map V.ref)) ∧ LCols K H as (atC cs chs).1 := by
  have hl : es.length = chs.length + 1 := by rw [q.S.len, edsTo_len]
  have hi : chs.length < es.length := by omega
  obtain ⟨cs', as, h1, h2, h3⟩ := q.S.at_ (List.getElem?_eq_getElem hi)
  rw [edsTo_get (by omega), List.take_length] at h1
  obtain rfl := Option.some.inj h1
  refine ⟨es[chs.length], as, List.getElem_mem hi, ?_, h2, h3⟩
  have e : es = es.take chs.length ++ [es[chs.length]] := by
    have := List.take_append_getElem hi
    rw [this, List.take_of_length_le (by omega)]
  have e2 : es.map V.ref = (es.take chs.length).map V.ref ++ [.ref es[chs.length]] := by
    conv => lhs; rw [e]
    rw [List.map_append]
    rfl
  rw [e2]
  exact atI_last _ _
def sp_law_historyN (K : PySem.W.Frag) : Sp := fun vs H Q _ => ∃ (p : Addr) (z0 z1 n m : Int), vs = [.ref p, .int n, .int m] ∧ H p = some (.lst [.int z0, .int z1]) ∧ 0 ≤ n ∧ n ≤ 40 ∧ 1 ≤ m ∧ m ≤ 99 ∧
  ∀ (h : Addr) (cs : List Col) (chs : List Ch) (y0 y1 : Int) (H' : Hp), H h = none → But p H H' → H' p = some (.lst [.int y0, .int y1]) → LhAt K H' h cs chs → HistOk cs chs → (chs.length : Int) ≤ n → (∀ c ∈ cs, c.name ∈ nm3) → (∀ ch ∈ chs, nmCh ch = true) → Q (.ref h) H'
theorem ok_law_historyN (T : Tx K mg) : Callee P w K mg base CX0 5 "_law_history" ["_law_pool_here", "_law_many", "_law_most"] [] (sp_law_historyN K) := by
  have Cf := ok_law_first (P := P) (w := w) (base := base) T
  have Cc := ok_law_change (P := P) (w := w) (base := base) T
  have Cw := (ok_word (P := P) (w := w) (base := base) T).up (show 1 ≤ 4 by decide)
  have Ct := (ok_then (P := P) (w := w) (base := base) T).up (show 3 ≤ 4 by decide)
  have Cd := (ok_draw (P := P) (w := w) (base := base) T).up (show 1 ≤ 4 by decide)
  refine mkCallee (fd__law_history T) (mg__law_history T) sc__law_history (fun _ _ _ _ _ _ us hl => match us, hl with | [_, _, _], _ => rfl) (fun vs H Q E h => ?_) (fun cdv A outer s H vs Q E hr h => ?_)
  · obtain ⟨p, z0, z1, n, m, rfl, _⟩ := h
    rfl
  · obtain ⟨p, z0, z1, n, m, rfl, hp, hn0, hn1, h0, h1, k⟩ := h
    have nd := sc__law_history.nd
    have hu := hu_of hr
    have gi : mg "int" = none := fr_int T
    refine ⟨_, pss_cons (ps_set (i := 3) nd rfl (Or.inl rfl) (pe_disp (pps_cons pe_str (pe_lst (pa_cons (pcall Cf hr (pa_cons (pv 0) (pa_cons (pv 2) pa_nil))) pa_nil)) (pps_cons pe_str (pe_lst pa_nil) (pps_cons pe_str pe_int pps_nil))) (by rfl) (by rfl) (fun z => by cases z) (by decide)))
      (pss_cons (ps_dput hu (pv 3) pe_str (pe_callB call_len (by rfl) (fr_len T) PySem.boot_len (pa_cons (pe_ix ix_list (pe_dget hu (pv 3) pe_str (fun _ _ => rfl)) pe_int (fun _ _ => rfl)) pa_nil)) rfl)
      (pss_cons (ps_for PassesOwn.never rfl (pi_range1 (by rfl) (fr_range T) (pa_cons (pcall Cd hr (pa_cons (pv 0) (pa_cons (pe_op op_add (pv 1) pe_int) pa_nil))) pa_nil)) (pg_name (i := 4) nd rfl (Or.inl rfl))
        (pss_cons (ps_set (i := 5) nd rfl (Or.inl rfl) (pcall Cc hr (pa_cons (pv 0) (pa_cons (pv 2) pa_nil))))
        (pss_one (ps_if (pt_cmpR op_isN (pcall Cw hr (pa_cons (pe_ix ix_list (pe_dget hu (pv 3) pe_str (fun _ _ => rfl)) (pe_un un_neg pe_int) (fun _ _ => rfl)) (pa_cons (pv 5) pa_nil))) pe_non (nomark _))
          (pss_cons (ps_expr (pe_bm PySem.F.plainAttrs_list PySem.F.slot_list_append PySem.F.type_list_append mt_append (pe_dget hu (pv 3) pe_str (fun _ _ => rfl)) (pa_cons (pcall Ct hr (pa_cons (pe_ix ix_list (pe_dget hu (pv 3) pe_str (fun _ _ => rfl)) (pe_un un_neg pe_int) (fun _ _ => rfl)) (pa_cons (pv 5) (pa_cons (pe_dget hu (pv 3) pe_str (fun _ _ => rfl)) pa_nil)))) pa_nil)))
          (pss_cons (ps_expr (pe_bm PySem.F.plainAttrs_list PySem.F.slot_list_append PySem.F.type_list_append mt_append (pe_dget hu (pv 3) pe_str (fun _ _ => rfl)) (pa_cons (pv 5) pa_nil)))
          (pss_one (ps_dput hu (pv 3) pe_str (pe_op op_add (pe_dget hu (pv 3) pe_str (fun _ _ => rfl)) (pe_callTy call_int1 (by rfl) gi (by decide +kernel) (pa_cons (pe_cmpR op_eq (pe_ix ix_tup (pv 5) pe_int (fun _ _ => rfl)) pe_str (nomark _)) pa_nil))) rfl)))) pss_nil))))
      (pss_one (ps_ret (pv 3))))), ?_⟩
    -- the dict
    refine q_asgX fun h nh => ?_
    have nph : h ≠ p := npool0 hp nh
    refine ⟨_, rfl, _, rfl, p, z0, z1, m, rfl, same_new nh _ _ hp, h0, h1, fun l as cs y0 y1 H1 nl b1 hp1 hl1 hc1 gd pl le2 nms => ⟨by show 1 ≤ sizeLine; decide, fun sh nsh => ⟨by show 0 ≤ sizeLine; decide, fun ca nca => ?_⟩⟩⟩
    have hd1 : H1 h = some (.dK []) := b1 _ _ nph upd_same
    have nlh : l ≠ h := fun e => by rw [e, upd_same] at nl; cases nl
    have nlp : l ≠ p := fun e => by rw [e, upd_ne nph.symm, hp] at nl; cases nl
    refine ⟨same_new nca _ _ (same_new nsh _ _ hd1), [(Sum.inr "sheets", .ref sh), (Sum.inr "changes", .ref ca), (Sum.inr "given", .int 0)], rfl, (by show 3 ≤ 15; decide), ?_⟩
    rw [lh_merge]
    have e1 : h ≠ sh := ne_of_none hd1 nsh
    have e2 : p ≠ sh := ne_of_none hp1 nsh
    have e3 : l ≠ sh := ne_of_none hl1 nsh
    have e4 : sh ≠ ca := ne_of_none upd_same nca
    have e5 : h ≠ ca := ne_of_none (same_new nsh _ _ hd1) nca
    have e6 : p ≠ ca := ne_of_none (same_new nsh _ _ hp1) nca
    have e7 : l ≠ ca := ne_of_none (same_new nsh _ _ hl1) nca
    have s3 := (same_new (o := .lst [.ref l]) nsh).trans (same_new (o := .lst []) nca)
    have nold : ∀ b o, b ≠ p → H b = some o → b ≠ sh ∧ b ≠ ca := fun b o hb e => by
      have q := b1 _ _ hb (same_new nh _ _ e)
      exact ⟨ne_of_none q nsh, ne_of_none (same_new nsh _ _ q) nca⟩
    have hA : LhI K p h sh ca cs [] [l] [] 0 (upd (upd (upd H1 sh (.lst [.ref l])) ca (.lst [])) h (.dK (lhDict sh ca 0))) := by
      have kt : KeepT H1 (upd (upd (upd H1 sh (.lst [.ref l])) ca (.lst [])) h (.dK (lhDict sh ca 0))) := (KeepT.of s3).trans (KeepT.dct (s3 _ _ hd1))
      refine ⟨upd_same, ?_, ?_, ?_, .nil, ?_, e2.symm, e6.symm, e4⟩
      · rw [upd_ne e1.symm]
        exact same_new nca _ _ upd_same
      · show Sheets K _ [l] [cs]
        refine .cons as ?_ (hc1.keepT kt) .nil
        rw [upd_ne nlh]
        exact s3 _ _ hl1
      · rw [upd_ne e5.symm]
        exact upd_same
      · intro e he
        rw [List.mem_singleton] at he
        rw [he]
        exact ⟨nlp, e3, e7⟩
    have hpA : upd (upd (upd H1 sh (.lst [.ref l])) ca (.lst [])) h (.dK (lhDict sh ca 0)) p = some (.lst [.int y0, .int y1]) := by
      rw [upd_ne nph.symm]
      exact s3 _ _ hp1
    have bA : But p H (upd (upd (upd H1 sh (.lst [.ref l])) ca (.lst [])) h (.dK (lhDict sh ca 0))) := fun b o hb e => by
      rw [upd_ne (ne_of_none e nh)]
      exact s3 _ _ (b1 _ _ hb (same_new nh _ _ e))
    generalize upd (upd (upd H1 sh (.lst [.ref l])) ca (.lst [])) h (.dK (lhDict sh ca 0)) = HA at hA hpA bA
    obtain ⟨ea, asa, hm, _, hea, hca⟩ := hA.last
    rw [List.mem_singleton] at hm
    subst hm
    refine ⟨_, rfl, h, .ref sh, rfl, (lh_get hA).1, sh, _, 0, _, rfl, rfl, sqL_of hA.s, rfl, _, asa.length, rfl, .inl ⟨_, sqL_of hea, by rw [List.length_map]⟩, _, rfl, h, _, rfl, DPut.k (k := Sum.inr "given") hA.d (by show 3 < sizeLine; decide), ?_⟩
    rw [lh_put]
    have hgv : ((asa.length : Nat) : Int) = (atC cs []).2 := by rw [hca.len]; rfl
    rw [hgv]
    have hB := hA.given (atC cs []).2
    have hpB : upd HA h (.dK (lhDict sh ca (atC cs []).2)) p = some (.lst [.int y0, .int y1]) := by rw [upd_ne nph.symm]; exact hpA
    have bB : But p H (upd HA h (.dK (lhDict sh ca (atC cs []).2))) := fun b o hb e => by
      rw [upd_ne (ne_of_none e nh)]
      exact bA _ _ hb e
    generalize upd HA h (.dK (lhDict sh ca (atC cs []).2)) = HB at hB hpB bB
    clear hA hpA bA hca hea hgv s3 hl1 hc1 hp1 hd1 b1 nca nsh
    -- the turns
    refine ⟨_, rfl, _, rfl, _, _, rfl, rfl, p, y0, y1, _, rfl, hpB, by omega, by omega, fun r u0 u1 r0 r1 => ⟨r, rfl, by omega, by omega, ?_⟩⟩
    refine for_range (lo := 0) (n := r.toNat) (fun i σ H' => ∃ (chs : List Ch) (es ts : List Addr) (y0 y1 : Int) (x4 x5 : Option V), σ = [some (.ref p), some (.int n), some (.int m), some (.ref h), x4, x5] ∧ But p H H' ∧ H' p = some (.lst [.int y0, .int y1]) ∧
      LhI K p h sh ca cs chs es ts (atC cs chs).2 H' ∧ Fits cs chs ∧ chs.length ≤ i ∧ ∀ ch ∈ chs, nmCh ch = true) ⟨[], [ea], [], u0, u1, none, none, rfl, bB.trans But.mut, upd_same, hB.but hpB But.mut, (fun i ch hc => by simp at hc), Nat.le_refl _, fun ch hc => by cases hc⟩ ?_ ?_
    · rintro i σ H' hi ⟨chs, es, ts, y0, y1, x4, x5, rfl, b', hp', q', f', l', nch⟩
      have hcl : chs.length ≤ 40 := by omega
      have gd' := f'.good gd chs.length (Nat.le_refl _)
      rw [List.take_length] at gd'
      refine ⟨_, rfl, _, rfl, p, y0, y1, m, rfl, hp', h0, h1, fun t ch w0 w1 H2 hf hn3 b2 hp2 ht => ?_⟩
      have q2 := q'.but hp' b2
      have b02 := b'.trans b2
      obtain ⟨e, as', he, hat, hel, hec⟩ := q2.last
      have hal : as'.length ≤ 6 := by rw [hec.len]; exact gd'.six
      have hes : es.length ≤ 41 := by rw [q2.S.len, edsTo_len]; omega
      refine ⟨_, rfl, h, .ref sh, rfl, (lh_get q2).1, _, rfl, sh, _, _, .ref e, rfl, rfl, sqL_of q2.s, hat, _, rfl, e, t, as', (atC cs chs).1, ch, rfl, hel, hec, ht, by omega, hf, fun c hc => (gd'.ok c hc).1, fun H3 s3 => ⟨rfl, _, rfl, ?_⟩⟩
      have q3 := q2.same s3
      have hp3 := s3 _ _ hp2
      have b03 := b02.trans (But.of s3)
      by_cases hz : hindV (atC cs chs).1 ch = .non
      · rw [decide_eq_true hz]
        have gs := gd'.step hf hz
        refine iteT ⟨_, rfl, h, .ref sh, rfl, (lh_get q3).1, .inl ⟨rfl, _, sqL_of q3.s⟩, _, rfl, h, .ref sh, rfl, (lh_get q3).1, _, rfl, sh, _, _, .ref e, rfl, rfl, sqL_of q3.s, hat, _, rfl, _, rfl, h, _, rfl, (lh_get q3).2.2, ?_⟩
        refine ⟨e, t, as', (atC cs chs).1, ch, (atC cs chs).2, rfl, s3 _ _ hel, hec.keep s3, ht.keep s3, by omega, hf, fun c hc => ?_, fun c hc => (gs.ok c hc).1.df, fun l1 as1 H4 nl1 s4 hl4 hc4 => ?_⟩
        · have := (gd'.ok c hc).1.df
          cases hd : c.dflt with
          | non => rfl
          | int _ => rfl
          | _ => rw [hd] at this; cases this
        have q4 := q3.same s4
        have hp4 := s4 _ _ hp3
        have n1 : l1 ≠ p := fun z => by rw [z, hp3] at nl1; cases nl1
        have n2 : l1 ≠ sh := fun z => by rw [z, q3.s] at nl1; cases nl1
        have n3 : l1 ≠ ca := fun z => by rw [z, q3.c] at nl1; cases nl1
        have M := q4.more (numThen ch (atC cs chs).2) hl4 hc4 ((ht.keep s3).keep s4) ⟨n1, n2, n3⟩
        have hesz : (es.map V.ref).length < sizeLine := by
          have e : sizeLine = 16777216 := by decide
          rw [List.length_map]
          omega
        have htsz : (ts.map V.ref).length < sizeLine := by
          have e : sizeLine = 16777216 := by decide
          rw [List.length_map, q4.C.len]
          omega
        refine ⟨sh, _, _, rfl, rfl, q4.s, hesz, ?_⟩
        have h5d : upd H4 sh (.lst (es.map V.ref ++ [.ref l1])) h = some (.dK (lhDict sh ca (atC cs chs).2)) := by rw [upd_ne q4.hs.1.symm]; exact q4.d
        have h5c : upd H4 sh (.lst (es.map V.ref ++ [.ref l1])) ca = some (.lst (ts.map V.ref)) := by rw [upd_ne q4.sc.symm]; exact q4.c
        have h5p : upd H4 sh (.lst (es.map V.ref ++ [.ref l1])) p = some (.lst [.int w0, .int w1]) := by rw [upd_ne q4.sp.symm]; exact hp4
        have h5t : ChAt K (upd H4 sh (.lst (es.map V.ref ++ [.ref l1]))) t ch := sqT_keepT (KeepT.lst q4.s) ((ht.keep s3).keep s4)
        obtain ⟨v1, v2, v3⟩ := lh_vals sh ca (atC cs chs).2
        have g5 : DGet (upd H4 sh (.lst (es.map V.ref ++ [.ref l1]))) h (.str "changes") (some (.ref ca)) := by rw [← v2]; exact DGet.k (k := Sum.inr "changes") h5d
        refine ⟨_, rfl, h, .ref ca, rfl, g5, .inl ⟨rfl, _, sqL_of h5c⟩, _, rfl, ca, _, _, rfl, rfl, h5c, htsz, ?_⟩
        have h6d : upd (upd H4 sh (.lst (es.map V.ref ++ [.ref l1]))) ca (.lst (ts.map V.ref ++ [.ref t])) h = some (.dK (lhDict sh ca (atC cs chs).2)) := by rw [upd_ne q4.hs.2.1.symm]; exact h5d
        have h6t := sqT_keepT (KeepT.lst h5c (o := .lst (ts.map V.ref ++ [.ref t]))) h5t
        have g6 : DGet (upd (upd H4 sh (.lst (es.map V.ref ++ [.ref l1]))) ca (.lst (ts.map V.ref ++ [.ref t]))) h (.str "given") (some (.int (atC cs chs).2)) := by rw [← v3]; exact DGet.k (k := Sum.inr "given") h6d
        refine ⟨_, rfl, h, _, rfl, g6, _, rfl, t, _, 0, _, rfl, rfl, h6t, ch.at0, rfl, .inr ⟨_, rfl, _, _, rfl, rfl, _, rfl, h, _, rfl, DPut.k (k := Sum.inr "given") h6d (by show 3 < sizeLine; decide), ?_⟩⟩
        rw [lh_put]
        have hv : (atC cs chs).2 + (if decide (V.str ch.kind = V.str "add") = true then 1 else 0) = numThen ch (atC cs chs).2 := by
          by_cases hk : ch.kind = "add"
          · rw [if_pos (decide_eq_true (by rw [hk])), kind_add hk]
          · rw [if_neg (by rw [decide_eq_false (nes hk)]; decide), kind_noadd hk, Int.add_zero]
        rw [hv]
        refine ⟨chs ++ [ch], es ++ [l1], ts ++ [t], w0, w1, _, _, rfl, ?_, ?_, by rw [atC_app]; exact M, f'.app hf hz, by rw [List.length_append]; show chs.length + 1 ≤ i + 1; omega, fun c hc => ?_⟩
        · intro b o hb eb
          have nbh : b ≠ h := ne_of_none eb nh
          rw [upd_ne nbh, upd_ne (nold b o hb eb).2, upd_ne (nold b o hb eb).1]
          exact (b03.trans (But.of s4)) _ _ hb eb
        · rw [upd_ne nph.symm, upd_ne q4.cp.symm]
          exact h5p
        · rcases List.mem_append.mp hc with hc | hc
          · exact nch c hc
          · rw [List.mem_singleton.mp hc]
            exact hn3
      · rw [decide_eq_false hz]
        exact iteF ⟨chs, es, ts, w0, w1, _, _, rfl, b03, hp3, q3, f', by omega, nch⟩
    · rintro σ H' ⟨chs, es, ts, y0, y1, x4, x5, rfl, b', hp', q', f', l', nch⟩
      exact ⟨_, rfl, k h cs chs y0 y1 H' nh b' hp' ⟨sh, ca, es, ts, q'.d, q'.s, q'.S, q'.c, q'.C⟩ ⟨pl, gd, f', by omega⟩ (by omega) nms nch⟩
def sp_law_history (K : PySem.W.Frag) : Sp := fun vs H Q _ => ∃ (p : Addr) (z0 z1 n m : Int), vs = [.ref p, .int n, .int m] ∧ H p = some (.lst [.int z0, .int z1]) ∧ 0 ≤ n ∧ n ≤ 40 ∧ 1 ≤ m ∧ m ≤ 99 ∧
  ∀ (h : Addr) (cs : List Col) (chs : List Ch) (y0 y1 : Int) (H' : Hp), H h = none → But p H H' → H' p = some (.lst [.int y0, .int y1]) → LhAt K H' h cs chs → HistOk cs chs → (chs.length : Int) ≤ n → Q (.ref h) H'
theorem ok_law_history (T : Tx K mg) : Callee P w K mg base CX0 5 "_law_history" ["_law_pool_here", "_law_many", "_law_most"] [] (sp_law_history K) := by
  obtain ⟨⟨fd, ds, F, b, v⟩, kp, g⟩ := ok_law_historyN (P := P) (w := w) (base := base) T
  refine ⟨⟨fd, ds, F.imp fun vs H Q E h => ?_, b, v⟩, kp, g⟩
  obtain ⟨p, z0, z1, n, m, e, hp, a, b, c, d, k⟩ := h
  exact ⟨p, z0, z1, n, m, e, hp, a, b, c, d, fun h cs chs y0 y1 H' h1 h2 h3 h4 h5 h6 _ _ => k h cs chs y0 y1 H' h1 h2 h3 h4 h5 h6⟩
/-! own errors that keep one argument: made, raised -/
/-- what such an __init__ does -/
def sp_keep1 (K : PySem.W.Frag) (x f : Str) : Sp := fun vs H Q _ => ∃ (a : Addr) (v : V), vs = [.ref a, v] ∧ H a = some (exo a (He.ga K x) none) ∧
  ∀ dx, H dx = none → dx ≠ a → Q .non (upd (upd H dx (exd dx [(f, v)])) a (exo a (He.ga K x) (some dx)))
/-- raise C(e) -/
def tRaise1 (K : PySem.W.Frag) (x f : Str) (W : WX) (te : TE) : TS := fun _ σ H => te σ H fun v H1 => ∀ d, H1 d = none → W (.ref (He.ga K x)) (some d) σ (upd H1 d (.xd [(f, v)]))
section
variable {X : Cx}
/-- an expression's reading, weakened -/
theorem pe_mono {e : Expr} {te : TE} (he : PE X e te) : PE X e (fun σ H Q => ∃ R : VK, te σ H R ∧ ∀ v H1, R v H1 → Q v H1) := by
  refine ⟨fun pins s σ H Q I h => ?_⟩
  obtain ⟨R, h1, h2⟩ := h
  exact thn (he.run pins s σ H _ I h1) fun u s1 ⟨x, H1, I1, rx, q⟩ => ⟨x, H1, I1, rx, h2 x H1 q⟩
theorem ps_raise1 {x f : Str} {W : WX} {e : Expr} {te : TE} {k : Nat} {fd : FuncData} {ps : List Str} {p pos pos2 : Pos} (hc : X.calm = true) (tk : Takes X W) (T : OexF X.K x f) (F1 : FnOk X.prog X.w X.K X.mg X.base CX0 k (He.ma X.K (He.ga X.K x) "__init__") fd ps (sp_keep1 X.K x f)) (hr : Room (k + 1) X.A) (hb : Binds X.K fd ps [])
    (hm : X.mg x = some (.ref (He.ga X.K x))) (he : PE X e te) (hg : Gl X x := by rfl) (hdb : (x == ("__debug__" : Str)) = false := by decide) (hst : starEach (e :: []) X.env = (false, eval e X.env) :: starEach [] X.env := by rfl) (hpl : (backTo pos (starEach [] X.env)).any (·.1) = false := by rfl) :
    PS X (.Raise (some (.Call (.Name x p) [e] [] pos)) none pos2) (tRaise1 X.K x f W te) := by
  refine ⟨fun pins s σ H D I h => ?_⟩
  have F2 : FnOk X.prog X.w X.K X.mg X.base CX0 k (He.ma X.K (He.ga X.K x) "__init__") fd ps (sp_keep1 X.K x f) := F1
  refine (ps_raise hc tk (pmk_oex T.o T.i T.ti F2 hr hb .nil (fun _ _ _ _ _ _ _ z => z.elim) hg hm (pa_cons (hs := hst) (pe_mono he) pa_nil) hdb hst hpl)).run pins s σ H D I ?_
  refine ⟨_, h, fun v H1 q => ⟨by show 1 ≤ 1000; decide, fun a ha => ⟨a, v, rfl, upd_same, fun dx ndx ne => ⟨rfl, dx, [(f, v)], upd_same, ?_, ?_, ?_⟩⟩⟩⟩
  · rw [upd_ne ne, upd_same]
  · rw [upd_ne ne] at ndx
    exact ndx
  · rw [upd_ne ne] at ndx
    have e1 : upd (del (upd (upd (upd H1 a (exo a (He.ga X.K x) none)) dx (exd dx [(f, v)])) a (exo a (He.ga X.K x) (some dx))) a) dx (.xd [(f, v)]) = upd H1 dx (.xd [(f, v)]) := by
      funext b
      by_cases hb : b = dx
      · rw [hb, upd_same, upd_same]
      · rw [upd_ne hb, upd_ne hb]
        by_cases hq : b = a
        · rw [hq, del_same, ha]
        · rw [del_ne hq, upd_ne hq, upd_ne hb, upd_ne hq]
    rw [e1]
    exact q dx ndx
end
theorem takesE {X : Cx} {E : XK} (hs : X.stack = X.env :: X.outer) (hf : X.env.frame = some X.env.locals) (hex : X.ex = []) {E₁ : Value → Shared → Prop}
    (hx : X.xe = fun e s' => wpAny (model X.prog X.w) X.A (leaving X.env e) (fun _ s'' => L2.CX X.prog X.w X.outer X.H_0 X.s_0 E e s'') E₁ s') : Takes X (fun cls d _ H => E cls d H) := takes_of hs hf hex hx
/-- what a called def lets out, this one lets out -/
theorem passE {X : Cx} {E : XK} (tk : Takes X (fun cls d _ H' => E cls d H')) : Passes (L2.CX X.prog X.w) X E := fun pins σ H s e s' I c => passAt tk σ pins H s e s' I c

theorem ok_BadEdition_init (T : Tx K mg) : ∃ fd, FnOk P w K mg base CX0 1 (He.ma K (He.ga K "BadEdition") "__init__") fd ["self", "edition"] (sp_keep1 K "BadEdition" "edition") ∧ Binds K fd ["self", "edition"] [] := by
  have ox := oexB_ok (ex_BadEdition_x T)
  refine mkMeth (fd_BadEdition___init__ T) sc_BadEdition___init__ (fun _ _ _ _ _ _ us hl => match us, hl with | [_, _], _ => rfl) (fun vs H Q E h => ?_) (fun cdv A outer s H vs Q E hr h => ?_)
  · obtain ⟨a, v, rfl, _⟩ := h
    rfl
  obtain ⟨a, v, rfl, ha, k⟩ := h
  exact ⟨_, pss_one (ps_ost (pv 0) (pv 1)), _, rfl, _, rfl, a, _, rfl, ox.o, ox.no, .inl ⟨ha, fun dx nd ne => k dx nd ne⟩⟩
-- needs: is_edition edition_of History.__len__ BadEdition.__init__ +CALM +RAISE
/-! edition_of, of anything: an edition, or BadEdition -/
def sp_edition_ofX (K : PySem.W.Frag) : Sp := fun vs H Q E => ∃ (h : Addr) (cs : List Col) (chs : List Ch) (x : V) (t : String), vs = [.ref h, x] ∧ HistAt K H h cs chs ∧ chs.length ≤ 1000 ∧ TyX K H x (.type t) ∧
  ((x = .non ∨ isEd chs.length x = true) → Q (.int (edOf chs.length x)) H) ∧ (x ≠ .non → isEd chs.length x = false → ∀ (d : Addr) (H' : Hp), Same H H' → H' d = some (.xd [("edition", x)]) → E (.ref (He.ga K "BadEdition")) (some d) H')
theorem ok_edition_ofX (T : Tx K mg) : Callee P w K mg base (L2.CX P w) 4 "edition_of" ["history", "edition"] [] (sp_edition_ofX K) := by
  have C1 := ok_is_edition (P := P) (w := w) (base := base) T
  obtain ⟨fdL, FL, bL⟩ := ok_Hist_len (P := P) (w := w) (base := base) T
  obtain ⟨fdE, FE, bE⟩ := ok_BadEdition_init (P := P) (w := w) (base := base) T
  have ox := oexB_ok (ex_BadEdition_x T)
  obtain ⟨fd, F⟩ := fd_edition_of T
  have b : Binds K fd ["history", "edition"] [] := F.bindsN (fun _ _ _ _ _ _ us hl => match us, hl with | [_, _], _ => rfl)
  refine ⟨⟨fd, [], F.ok (CX := L2.CX P w) sc_edition_of (fun vs H Q E h => ?_) (fun cdv A outer s H vs Q E hr h => ?_), b, .nil⟩, F.kp, mg_edition_of T⟩
  · obtain ⟨h, cs, chs, x, t, rfl, _⟩ := h
    rfl
  obtain ⟨h, cs, chs, x, t, rfl, hh, few, tx, kq, ke⟩ := h
  have hr2 : Room 2 _ := hr.mono (by decide)
  obtain ⟨dx, fs, hi⟩ := histNo hh
  refine ⟨_, pss_cons (ps_if (pt_cmpR op_isN (pv 1) pe_non (nomark _)) (pss_one (ps_ret (pe_callB (call_lenOwn FL (me_History___len__ T) (hr.mono (by decide)) bL pass0) (by rfl) (fr_len T) PySem.boot_len (pa_cons (pv 0) pa_nil)))) pss_nil)
    (pss_cons (ps_if (pt_not (pt_val (pcall C1 hr (pa_cons (pv 0) (pa_cons (pv 1) pa_nil))))) (pss_one (ps_raise1 (f := "edition") rfl (takes_of rfl rfl rfl rfl) ox FE hr2 bE (mg_BadEdition T) (pv 1))) pss_nil) (pss_one (ps_ret (pv 1)))), ?_⟩
  by_cases hx : x = .non
  · subst hx
    exact ⟨_, rfl, rfl, _, rfl, iteDT rfl ⟨_, rfl, h, dx, fs, rfl, hi, h, cs, chs, rfl, hh, _, rfl, ⟨by omega, by omega⟩, kq (.inl rfl)⟩⟩
  refine ⟨_, rfl, rfl, _, rfl, iteD hx ⟨_, rfl, _, rfl, h, cs, chs, x, t, rfl, hh, few, tx, _, rfl, ?_⟩⟩
  cases he : isEd chs.length x with
  | true =>
    cases x with
    | int i => exact iteF ⟨_, rfl, kq (.inr he)⟩
    | _ => cases he
  | false => exact iteT ⟨_, rfl, fun d nd' => ke hx he d _ (same_new nd') upd_same⟩

theorem ok_BadColumn_init (T : Tx K mg) : ∃ fd, FnOk P w K mg base CX0 1 (He.ma K (He.ga K "BadColumn") "__init__") fd ["self", "index"] (sp_keep1 K "BadColumn" "index") ∧ Binds K fd ["self", "index"] [] := by
  have ox := oexB_ok (ex_BadColumn_x T)
  refine mkMeth (fd_BadColumn___init__ T) sc_BadColumn___init__ (fun _ _ _ _ _ _ us hl => match us, hl with | [_, _], _ => rfl) (fun vs H Q E h => ?_) (fun cdv A outer s H vs Q E hr h => ?_)
  · obtain ⟨a, v, rfl, _⟩ := h
    rfl
  obtain ⟨a, v, rfl, ha, k⟩ := h
  exact ⟨_, pss_one (ps_ost (pv 0) (pv 1)), _, rfl, _, rfl, a, _, rfl, ox.o, ox.no, .inl ⟨ha, fun dx nd ne => k dx nd ne⟩⟩
-- needs: is_given History.numbers is_whole BadColumn.__init__ +BORN +CALM +RAISE
/-! is_given, of anything; history.born and .dropped of what was not given -/
def givB (m : Int) : V → Bool
  | .int n => decide (0 ≤ n) && decide (n < m)
  | _ => false
def sp_is_givenX (K : PySem.W.Frag) : Sp := fun vs H Q _ => ∃ (h : Addr) (cs : List Col) (chs : List Ch) (x : V) (t : String), vs = [.ref h, x] ∧ HistAt K H h cs chs ∧ HistOk cs chs ∧ TyX K H x (.type t) ∧ Q (.bl (givB (atC cs chs).2 x)) H
theorem ok_is_givenX (T : Tx K mg) : Callee P w K mg base CX0 2 "is_given" ["history", "value"] [] (sp_is_givenX K) := by
  have C1 := ok_is_whole (P := P) (w := w) (base := base) T
  obtain ⟨fdN, FN, bN⟩ := ok_Hist_numbers (P := P) (w := w) (base := base) T
  refine mkCallee (fd_is_given T) (mg_is_given T) sc_is_given (fun _ _ _ _ _ _ us hl => match us, hl with | [_, _], _ => rfl) (fun vs H Q E h => ?_) (fun cdv A outer s H vs Q E hr h => ?_)
  · obtain ⟨h, cs, chs, x, t, rfl, _⟩ := h
    rfl
  obtain ⟨h, cs, chs, x, t, rfl, hh, o, tx, k⟩ := h
  obtain ⟨dx, fs, hi, no⟩ := histMx "numbers" (by decide +kernel) hh
  refine ⟨_, pss_one (ps_ret (pe_and (pcall C1 hr (pa_cons (pv 1) pa_nil)) (pe_one (pe_chain op_le op_lt pe_int (pv 1) (pe_meth0 (pv 0) (cl_History T) (me_History_numbers T) FN hr bN .nil pass0))))), ?_⟩
  refine ⟨_, rfl, x, t, rfl, tx, _, rfl, ?_⟩
  cases x with
  | int n =>
    refine iteT ⟨_, rfl, _, _, rfl, rfl, _, rfl, ?_⟩
    have k : Q (.bl (decide (0 ≤ n) && decide (n < (atC cs chs).2))) H := k
    cases h1 : decide (0 ≤ n) with
    | false =>
      rw [h1] at k
      exact k
    | true =>
      rw [h1] at k
      exact ⟨_, rfl, h, dx, fs, rfl, hi, no, h, cs, chs, rfl, hh, o, _, _, rfl, rfl, k⟩
  | _ => exact iteF k
def sp_notGiven (K : PySem.W.Frag) : Sp := fun vs H _ E => ∃ (h : Addr) (cs : List Col) (chs : List Ch) (x : V) (t : String), vs = [.ref h, x] ∧ HistAt K H h cs chs ∧ HistOk cs chs ∧ TyX K H x (.type t) ∧ givB (atC cs chs).2 x = false ∧
  ∀ (d : Addr) (H' : Hp), Same H H' → H' d = some (.xd [("index", x)]) → E (.ref (He.ga K "BadColumn")) (some d) H'
theorem ok_Hist_bornX (T : Tx K mg) : ∃ fd, FnOk P w K mg base (L2.CX P w) 3 (He.ma K (He.ga K "History") "born") fd ["self", "number"] (sp_notGiven K) ∧ Binds K fd ["self", "number"] [] := by
  have C1 := ok_is_givenX (P := P) (w := w) (base := base) T
  obtain ⟨fdE, FE, bE⟩ := ok_BadColumn_init (P := P) (w := w) (base := base) T
  have ox := oexB_ok (ex_BadColumn_x T)
  obtain ⟨fd, F⟩ := fd_History_born T
  refine ⟨fd, F.ok (CX := L2.CX P w) sc_History_born (fun vs H Q E h => ?_) (fun cdv A outer s H vs Q E hr h => ?_), F.bindsN fun _ _ _ _ _ _ us hl => match us, hl with | [_, _], _ => rfl⟩
  · obtain ⟨h, cs, chs, x, t, rfl, _⟩ := h
    rfl
  obtain ⟨h, cs, chs, x, t, rfl, hh, o, tx, hn, k⟩ := h
  have hr2 : Room 2 _ := hr.mono (by decide)
  refine ⟨_, (pss_cons (ps_if (pt_not (pt_val (pcall C1 hr (pa_cons (pv 0) (pa_cons (pv 1) pa_nil))))) (pss_one (ps_raise1 (f := "index") rfl (takes_of rfl rfl rfl rfl) ox FE hr2 bE (mg_BadColumn T) (pv 1))) pss_nil)
        (pss_one (ps_ret (pe_ix ix_list (pe_fld (pv 0) rfl) (pv 1) (fun _ _ => rfl))))), ?_⟩
  refine ⟨_, rfl, _, rfl, h, cs, chs, x, t, rfl, hh, o, tx, _, rfl, ?_⟩
  rw [hn]
  exact iteT ⟨_, rfl, fun d nd' => k d _ (same_new nd') upd_same⟩
theorem ok_Hist_droppedX (T : Tx K mg) : ∃ fd, FnOk P w K mg base (L2.CX P w) 3 (He.ma K (He.ga K "History") "dropped") fd ["self", "number"] (sp_notGiven K) ∧ Binds K fd ["self", "number"] [] := by
  have C1 := ok_is_givenX (P := P) (w := w) (base := base) T
  obtain ⟨fdE, FE, bE⟩ := ok_BadColumn_init (P := P) (w := w) (base := base) T
  have ox := oexB_ok (ex_BadColumn_x T)
  obtain ⟨fd, F⟩ := fd_History_dropped T
  refine ⟨fd, F.ok (CX := L2.CX P w) sc_History_dropped (fun vs H Q E h => ?_) (fun cdv A outer s H vs Q E hr h => ?_), F.bindsN fun _ _ _ _ _ _ us hl => match us, hl with | [_, _], _ => rfl⟩
  · obtain ⟨h, cs, chs, x, t, rfl, _⟩ := h
    rfl
  obtain ⟨h, cs, chs, x, t, rfl, hh, o, tx, hn, k⟩ := h
  have hr2 : Room 2 _ := hr.mono (by decide)
  refine ⟨_, (pss_cons (ps_if (pt_not (pt_val (pcall C1 hr (pa_cons (pv 0) (pa_cons (pv 1) pa_nil))))) (pss_one (ps_raise1 (f := "index") rfl (takes_of rfl rfl rfl rfl) ox FE hr2 bE (mg_BadColumn T) (pv 1))) pss_nil)
        (pss_one (ps_ret (pe_ix ix_list (pe_fld (pv 0) rfl) (pv 1) (fun _ _ => rfl))))), ?_⟩
  refine ⟨_, rfl, _, rfl, h, cs, chs, x, t, rfl, hh, o, tx, _, rfl, ?_⟩
  rw [hn]
  exact iteT ⟨_, rfl, fun d nd' => k d _ (same_new nd') upd_same⟩

-- needs: column_named
/-! column_named, of what is no text -/
def noStr (K : PySem.W.Frag) (H : Hp) (x : V) : Prop := ∃ t, TyX K H x (.type t) ∧ kitB t "str" = some false
theorem noStr_non {K : PySem.W.Frag} {H : Hp} : noStr K H .non := ⟨_, .base .non, by decide +kernel⟩
theorem noStr_int {K : PySem.W.Frag} {H : Hp} (i : Int) : noStr K H (.int i) := ⟨_, .base (.int i), by decide +kernel⟩
def sp_column_namedN (K : PySem.W.Frag) : Sp := fun vs H Q _ => ∃ (l x : V), vs = [l, x] ∧ noStr K H x ∧ Q .non H
theorem ok_column_namedN (T : Tx K mg) : Callee P w K mg base CX0 1 "column_named" ["columns", "name"] [] (sp_column_namedN K) := by
  refine mkCallee (fd_column_named T) (mg_column_named T) sc_column_named (fun _ _ _ _ _ _ us hl => match us, hl with | [_, _], _ => rfl) (fun vs H Q E h => ?_) (fun cdv A outer s H vs Q E hr h => ?_)
  · obtain ⟨l, x, rfl, _⟩ := h
    rfl
  obtain ⟨l, x, rfl, ⟨t, ty, hk⟩, k⟩ := h
  have nd := sc_column_named.nd
  refine ⟨_, pss_cons (ps_if (pt_not (pt_val (pe_callB call_isi (by rfl) (fr_isinstance T) (by decide +kernel) (pa_cons (pv 1) (pa_cons (pe_bltn (v := .ty "str") (by rfl) (fr_str T) (by decide +kernel) rfl) pa_nil))))) (pss_one (ps_ret pe_non)) pss_nil)
    (pss_cons (ps_for PassesOwn.never rfl (pi_list (pv 0)) (pg_name (i := 2) nd rfl (Or.inl rfl)) (pss_one (ps_if (pt_cmpR op_eq (pe_fld (pv 2) rfl) (pv 1) (nomark _)) (pss_one (ps_ret (pv 2))) pss_nil))) (pss_one (ps_ret pe_non))), ?_⟩
  exact ⟨_, rfl, x, .ty "str", _, _, false, rfl, .ty "str", ty, kit_ty hk, _, rfl, iteT k⟩

/-! own error classes straight over KeyError, OverflowError, RuntimeError: made, their argument kept, raised -/
section
variable {X : Cx} {pins : List (Addr × Obj)} {σ : L2.St} {H : Hp} {s : Shared} {a C : Addr} {f : Str} {y : V} {u : Value} {E : Value → Shared → Prop} {A : Around}
/-- self.f = y, where the dict is laid -/
theorem oeg_new {Q : Unit → Shared → Prop} (T : OegC X.K C) (I : Inv X pins σ H s) (e : H a = some (exo a C none)) (no : PySem.W.findIn X.K (.ref C) f = some none) (ry : RelV y u)
    (then_ : ∀ dx s', H dx = none → dx ≠ a → Inv X pins σ (upd (upd H dx (exd dx [(f, y)])) a (exo a C (some dx))) s' → Q () s') : wpAny (model X.prog X.w) A (setAttr (.ref a) f u) Q E s := by
  obtain ⟨c1, c2, N, bs, low, sn, sub, ab, col, dd, k0, k1, k2, k3, k5, B, ni, ii, atC, U⟩ := T.cls
  have isCd : PySem.W.clsIn X.K C = some { name := c1, bases := bs, mro := .ref C :: low, ns := N, qualname := c2, hasDict := true, slotNames := sn, subclasses := sub, abstract := ab, collection := col, hasDel := false } := by unfold PySem.W.clsIn; rw [atC] <;> rfl
  obtain ⟨t1, ho⟩ := exo_at I.hok e
  obtain ⟨hp, g, d, t, os⟩ := s
  refine PySem.W.set_plain I.kIn (ox := { cls := .ref C, dict := none, data := .fields #[.ref t1, .none, .none, .none, .bool false, .none] }) (od := none) ⟨ho, rfl, rfl, trivial⟩ T.sa ?_
  refine PySem.OwnErr.osa_low U I.kIn ho isCd rfl rfl no (fun h' tk' dx keep new apart atx isNs => ?_)
  have fresh : H dx = none := I.hok.fresh new
  have nd : ∀ {b : Addr} {o : Obj}, hp.get? b = some o → b ≠ dx := fun {b o} z => Nat.ne_of_lt (Nat.lt_of_lt_of_le (Heap.lt_size z) new)
  have na : ∀ {b : Addr}, H b = none → b ≠ a := fun {b} z q => by
    rw [q, e] at z
    cases z
  have un : Un X.fs [] H (upd (upd H dx (exd dx [(f, y)])) a (exo a C (some dx))) hp h' := {
    keep := fun b o z n _ _ => keep b o (na n) z
    slot := fun b o z n _ _ => ⟨o.slots, keep b o (na n) z⟩
    free := fun b o z n _ => by rw [upd_ne (na n), upd_ne (nd z)]; exact n
    there := fun b o z _ => by
      by_cases hb : b = a
      · exact ⟨_, by rw [hb]; exact atx⟩
      · exact ⟨o, keep b o hb z⟩
    tups := fun b xs z => by rw [upd_ne (at_ne e z exo_tup), upd_ne (ne_of_none z fresh)]; exact z
    frzs := fun b o v z => by rw [upd_ne (at_ne e z exo_frz), upd_ne (ne_of_none z fresh)]; exact z
    tbls := fun b ps z => ⟨#[], by rw [upd_ne (at_ne e z exo_tbl), upd_ne (ne_of_none z fresh), z]; simp⟩ }
  refine then_ dx _ fresh apart (I.un (t' := tk') un fun b o z => ?_)
  by_cases hb : b = a
  · subst hb
    rw [upd_same] at z
    cases z
    exact exo_ok atx
  · rw [upd_ne hb] at z
    by_cases hd : b = dx
    · subst hd
      rw [upd_same] at z
      cases z
      exact exd_ok isNs (relO_put (fs := []) ry fun g => True.intro)
    · rw [upd_ne hd] at z
      refine (I.hok b o z).stay (fun c v hc q => keep c v ?_ q) (fun c hc => by rw [upd_ne (at_ne e hc exo_own), upd_ne (ne_of_none hc fresh)]; exact hc) (fun c xs hc => by rw [upd_ne (at_ne e hc exo_tup), upd_ne (ne_of_none hc fresh)]; exact hc)
      rcases hc with hc | hc
      · rw [hc]
        exact hb
      · exact at_ne e hc exo_own
end
/-- self.f = e, the first one -/
def tOsg (K : PySem.W.Frag) (f : Str) (to te : TE) : TS := fun D σ H => te σ H fun y H1 => to σ H1 fun x H2 => ∃ a C : Addr, x = .ref a ∧ OegC K C ∧ PySem.W.findIn K (.ref C) f = some none ∧
  H2 a = some (exo a C none) ∧ ∀ dx, H2 dx = none → dx ≠ a → D.nx σ (upd (upd H2 dx (exd dx [(f, y)])) a (exo a C (some dx)))
theorem ps_osg {X : Cx} {o e : Expr} {to te : TE} {f : Str} {p' pos : Pos} (ho : PE X o to) (he : PE X e te) (sw : swapsWith e (some (.Attribute o f p')) pos.line X.env = pure false := by rfl) : PS X (.Assign [.Attribute o f p'] e pos) (tOsg X.K f to te) := by
  refine ⟨fun pins s σ H D I h => ?_⟩
  refine plainObj_wpAny_Assign_Attribute (thn (he.run pins s σ H _ I h) fun v s1 ⟨y, H1, I1, r1, q1⟩ => thn (ho.run pins s1 σ H1 _ I1 q1) fun u s2 ⟨x, H2, I2, r2, a, C, ex, T, no, ea, q⟩ => ?_) sw
  subst ex
  obtain rfl : u = Value.ref a := r2
  exact oeg_new T I2 ea no r1 fun dx s' n ne J => ⟨σ, _, J, q dx n ne⟩
/-- C(e, ..) of such a class, its own __init__ keeping sp -/
theorem pmk_oeg {X : Cx} {CX : CXT} {x : Str} {C fI : Addr} {k : Nat} {fd : FuncData} {ps : List Str} {sp : Sp} {ds : List Value} {dvs : List V} {e : Expr} {es : List Expr} {ta : TA} {p pos : Pos} (T : OegC X.K C) (ini : PySem.W.findIn X.K (.ref C) "__init__" = some (some (.ref fI)))
    (fnI : PySem.W.typeIn X.K (.ref fI) = some (.type "function")) (F1 : FnOk X.prog X.w X.K X.mg X.base CX k fI fd ps sp) (hr : Room (k + 1) X.A) (hb : Binds X.K fd ps ds) (hd : Vals dvs ds) (hx : Passes CX X (fun _ _ _ => False)) (hg : Gl X x) (hm : X.mg x = some (.ref C)) (ha : PA X (e :: es) ta)
    (hdb : (x == ("__debug__" : Str)) = false := by decide) (hst : starEach (e :: es) X.env = (false, eval e X.env) :: starEach es X.env := by rfl) (hpl : (backTo pos (starEach es X.env)).any (·.1) = false := by rfl) :
    PMk X (.Call (.Name x p) (e :: es) [] pos) (tMkO C sp dvs ta) := by
  intro pins s σ H Q I h
  obtain ⟨c1, c2, N, bs, low, sn, sub, ab, col, dd, k0, k1, k2, k3, k5, B, ni, ii, atC, U⟩ := T.cls
  refine wpAny_Call_Name_kw (ld_glob I hg hm ?_ hdb)
  refine PySem.W.callWith_K (h₀ := X.base) I.ok.mod.kin T.kC (thn (ha.run pos pins s σ H _ I h) fun us s1 ⟨vs, H1, I1, r1, hz, q1⟩ => ⟨I1.kIn, ?_⟩) hst hpl
  show wpAny _ _ (call (.ref C) us) _ _ _
  obtain ⟨hp, g, dr, tk, os⟩ := s1
  have le1 : hp.objs.size ≤ hp.objs.size + 1 := Nat.le_succ _
  have no1 : H1 (hp.objs.size + 1) = none := I1.hok.fresh le1
  have q2 := q1 (hp.objs.size + 1) no1
  have keeps : ∀ b o, hp.get? b = some o → ((hp.push (PySem.W.kdv_tup us)).push (PySem.HandSPX.excO C hp.objs.size)).get? b = some o := fun b o z => Heap.get?_push_of_some _ (Heap.get?_push_of_some _ z)
  have got : ((hp.push (PySem.W.kdv_tup us)).push (PySem.HandSPX.excO C hp.objs.size)).get? (hp.objs.size + 1) = some (PySem.HandSPX.excO C hp.objs.size) := by heap_get
  have I2 : Inv X pins σ (upd H1 (hp.objs.size + 1) (exo (hp.objs.size + 1) C none)) ⟨(hp.push (PySem.W.kdv_tup us)).push (PySem.HandSPX.excO C hp.objs.size), g, dr, tk, os⟩ :=
    I1.laid (t' := tk) (a := hp.objs.size + 1) (o := exo (hp.objs.size + 1) C none) (h' := (hp.push (PySem.W.kdv_tup us)).push (PySem.HandSPX.excO C hp.objs.size)) keeps le1 (exo_ok got)
  have r2 : Vals (V.ref (hp.objs.size + 1) :: (vs ++ dvs)) (Value.ref (hp.objs.size + 1) :: (us ++ ds)) := .cons rfl (r1.append hd)
  have many : (Value.ref (hp.objs.size + 1) :: us ++ ds).length = ps.length := by
    have z := r2.length
    rw [F1.len _ _ _ _ q2] at z
    exact z.symm
  have short : us.length ≤ sizeLine := by
    rw [← Paired.length r1, sizeLine_eq]
    omega
  refine wpAny_call (PySem.OwnErr.call_low U (I1.kIn _ _ atC) (PySem.W.looks_findIn I1.kIn ini) (fun self => PySem.W.bind_fn I1.kIn self fnI) short
    (codeAny_mono (F1.run _ X.stack _ _ ⟨Value.ref (hp.objs.size + 1) :: us, []⟩ (Value.ref (hp.objs.size + 1) :: (us ++ ds)) _ _ (fun _ _ _ => False) (hr.make C us []) (I2.env0.make C us []) (hb _ (Value.ref (hp.objs.size + 1) :: us) I2.kIn many) r2 q2) fun r z done => ?_))
  cases r with
  | error er => exact hx pins σ _ _ er z I2 done
  | ok how =>
    cases how with
    | ret u =>
      obtain ⟨v, H2, os2, bare2, un2, hok2, rv, ev, d, fs, ea, ed, hd1, q3⟩ := done
      subst ev
      obtain ⟨h2, g2, d2, t2, os'⟩ := z
      exact ⟨rv, mk_end (raises_own T.exC T.tyC) I1 le1 keeps un2 hok2 os2 bare2 ea ed hd1 q3⟩
    | next => exact False.elim done
    | brk => exact False.elim done
    | cont => exact False.elim done
/-- raise C(e) of such a class -/
theorem ps_raiseG {X : Cx} {x f : Str} {W : WX} {e : Expr} {te : TE} {k : Nat} {fd : FuncData} {ps : List Str} {p pos pos2 : Pos} (hc : X.calm = true) (tk : Takes X W) (T : OegF X.K x f) (F1 : FnOk X.prog X.w X.K X.mg X.base CX0 k (He.ma X.K (He.ga X.K x) "__init__") fd ps (sp_keep1 X.K x f)) (hr : Room (k + 1) X.A) (hb : Binds X.K fd ps [])
    (hm : X.mg x = some (.ref (He.ga X.K x))) (he : PE X e te) (hg : Gl X x := by rfl) (hdb : (x == ("__debug__" : Str)) = false := by decide) (hst : starEach (e :: []) X.env = (false, eval e X.env) :: starEach [] X.env := by rfl) (hpl : (backTo pos (starEach [] X.env)).any (·.1) = false := by rfl) :
    PS X (.Raise (some (.Call (.Name x p) [e] [] pos)) none pos2) (tRaise1 X.K x f W te) := by
  refine ⟨fun pins s σ H D I h => ?_⟩
  have F2 : FnOk X.prog X.w X.K X.mg X.base CX0 k (He.ma X.K (He.ga X.K x) "__init__") fd ps (sp_keep1 X.K x f) := F1
  refine (ps_raise hc tk (pmk_oeg T.o T.i T.ti F2 hr hb .nil (fun _ _ _ _ _ _ _ z => z.elim) hg hm (pa_cons (hs := hst) (pe_mono he) pa_nil) hdb hst hpl)).run pins s σ H D I ?_
  refine ⟨_, h, fun v H1 q => ⟨by show 1 ≤ 1000; decide, fun a ha => ⟨a, v, rfl, upd_same, fun dx ndx ne => ⟨rfl, dx, [(f, v)], upd_same, ?_, ?_, ?_⟩⟩⟩⟩
  · rw [upd_ne ne, upd_same]
  · rw [upd_ne ne] at ndx
    exact ndx
  · rw [upd_ne ne] at ndx
    have e1 : upd (del (upd (upd (upd H1 a (exo a (He.ga X.K x) none)) dx (exd dx [(f, v)])) a (exo a (He.ga X.K x) (some dx))) a) dx (.xd [(f, v)]) = upd H1 dx (.xd [(f, v)]) := by
      funext b
      by_cases hb : b = dx
      · rw [hb, upd_same, upd_same]
      · rw [upd_ne hb, upd_ne hb]
        by_cases hq : b = a
        · rw [hq, del_same, ha]
        · rw [del_ne hq, upd_ne hq, upd_ne hb, upd_ne hq]
    rw [e1]
    exact q dx ndx

theorem ok_UnknownName_init (T : Tx K mg) : ∃ fd, FnOk P w K mg base CX0 1 (He.ma K (He.ga K "UnknownName") "__init__") fd ["self", "name"] (sp_keep1 K "UnknownName" "name") ∧ Binds K fd ["self", "name"] [] := by
  have ox := oegB_ok (ex_UnknownName_g T)
  refine mkMeth (fd_UnknownName___init__ T) sc_UnknownName___init__ (fun _ _ _ _ _ _ us hl => match us, hl with | [_, _], _ => rfl) (fun vs H Q E h => ?_) (fun cdv A outer s H vs Q E hr h => ?_)
  · obtain ⟨a, v, rfl, _⟩ := h
    rfl
  obtain ⟨a, v, rfl, ha, k⟩ := h
  exact ⟨_, pss_one (ps_osg (pv 0) (pv 1)), _, rfl, _, rfl, a, _, rfl, ox.o, ox.no, ha, fun dx nd ne => k dx nd ne⟩
-- needs: +RAISE
/-! a def that may raise: taken where nothing is to be raised; called where what it raises goes on -/
theorem FnOk.calm {k : Nat} {f : Addr} {fd : FuncData} {ps : List Str} {sp sp0 : Sp} (F : FnOk P w K mg base (L2.CX P w) k f fd ps sp) (h : ∀ vs H Q E, sp0 vs H Q E → sp vs H Q fun _ _ _ => False) : FnOk P w K mg base CX0 k f fd ps sp0 := by
  refine ⟨fun vs H Q E q => F.len vs H Q _ (h vs H Q E q), fun A outer s H args us vs Q E hr he hb hv q => ?_⟩
  refine codeAny_mono (F.run A outer s H args us vs Q _ hr he hb hv (h vs H Q E q)) fun r s' z => ?_
  cases r with
  | ok f => cases f <;> exact z
  | error e =>
    obtain ⟨_, _, _, _, _, _, _, _, _, _, _, _, q⟩ := z
    exact q.elim
theorem Callee.calm {k : Nat} {x : Str} {ps : List Str} {dvs : List V} {sp sp0 : Sp} (C : Callee P w K mg base (L2.CX P w) k x ps dvs sp) (h : ∀ vs H Q E, sp0 vs H Q E → sp vs H Q fun _ _ _ => False) : Callee P w K mg base CX0 k x ps dvs sp0 := by
  obtain ⟨fd, ds, F, b, v⟩ := C.ex
  exact ⟨⟨fd, ds, FnOk.calm F h, b, v⟩, C.kp, C.g⟩
/-- f(e, ..), f may raise -/
theorem pcallX {X : Cx} {E : XK} {k : Nat} {x : Str} {ps : List Str} {dvs : List V} {sp : Sp} {p pos : Pos} {e : Expr} {es : List Expr} {t : TA} (C : Callee X.prog X.w X.K X.mg X.base (L2.CX X.prog X.w) k x ps dvs sp) (hr : Room k X.A) (tk : Takes X (fun cls d _ H' => E cls d H')) (ha : PA X (e :: es) t) (hg : Gl X x := by rfl)
    (hdb : (x == ("__debug__" : Str)) = false := by decide) (he : starEach (e :: es) X.env = (false, eval e X.env) :: starEach es X.env := by rfl) (hpl : (backTo pos (starEach es X.env)).any (·.1) = false := by rfl) :
    PE X (.Call (.Name x p) (e :: es) [] pos) (tCall sp dvs E t) := by
  obtain ⟨fd, ds, F, b, v⟩ := C.ex
  exact pe_call F hr hg C.g C.kp b v (passE tk) ha hdb he hpl

-- needs: History.columns column_named column_numbered UnknownName.__init__ +EDX +NAMEW +HISM
/-! history.column(name, edition=..) and .by_number(..), of anything -/
def namedV (cs : List Col) : V → Option Col
  | .str n => cs.find? (isN n)
  | _ => none
def sp_Hist_columnX (K : PySem.W.Frag) : Sp := fun vs H Q E => ∃ (h : Addr) (cs : List Col) (chs : List Ch) (n x : V), vs = [.ref h, n, x] ∧ HistAt K H h cs chs ∧ chs.length ≤ 1000 ∧ okV n = true ∧ okV x = true ∧
  (x ≠ .non → isEd chs.length x = false → ∀ (d : Addr) (H' : Hp), Same H H' → H' d = some (.xd [("edition", x)]) → E (.ref (He.ga K "BadEdition")) (some d) H') ∧
  ((x = .non ∨ isEd chs.length x = true) → (namedV (colsAt cs chs x) n = none → ∀ (d : Addr) (H' : Hp), Same H H' → H' d = some (.xd [("name", n)]) → E (.ref (He.ga K "UnknownName")) (some d) H') ∧
    ∀ a c, namedV (colsAt cs chs x) n = some c → ColA K H a c → Q (.ref a) H)
theorem ok_Hist_columnX (T : Tx K mg) : ∃ fd, FnOk P w K mg base (L2.CX P w) 5 (He.ma K (He.ga K "History") "column") fd ["self", "name", "edition"] (sp_Hist_columnX K) ∧ (∃ g, KBn K fd ["self", "name", "edition"] 2 ["edition"] g (fun vs zs => vs ++ zs)) := by
  have C1 := ok_edition_ofX (P := P) (w := w) (base := base) T
  have C2 := (ok_column_named (P := P) (w := w) (base := base) T).up (show 1 ≤ 4 by decide)
  have C3 := (ok_column_namedN (P := P) (w := w) (base := base) T).up (show 1 ≤ 4 by decide)
  obtain ⟨fdU, FU, bU⟩ := ok_UnknownName_init (P := P) (w := w) (base := base) T
  have og := oegB_ok (ex_UnknownName_g T)
  obtain ⟨fd, F⟩ := fd_History_column T
  refine ⟨fd, F.ok (CX := L2.CX P w) sc_History_column (fun vs H Q E h => ?_) (fun cdv A outer s H vs Q E hr h => ?_), ?_⟩
  · obtain ⟨h, cs, chs, n, x, rfl, _⟩ := h
    rfl
  · obtain ⟨h, cs, chs, n, x, rfl, hq, few, okn, okx, ke, kq⟩ := h
    have nd := sc_History_column.nd
    have hr2 : Room 2 _ := hr.mono (by decide)
    obtain ⟨dx, e, c, b, d, es, ts, hh, he, hE, hc, hC, hb, hd⟩ := id hq
    obtain ⟨tx, htx⟩ := tys_ok (K := K) okx
    obtain ⟨tn, htn⟩ := tys_ok (K := K) okn
    have hlen : es.length = chs.length + 1 := by rw [hE.len, edsTo_len]
    by_cases hx : x = .non ∨ isEd chs.length x = true
    · have bd := isEd_ix hx
      have hi : (edOf chs.length x).toNat < es.length := by omega
      obtain ⟨cs1, as1, hcs1, hea, hc1⟩ := hE.at_ (List.getElem?_eq_getElem hi)
      rw [edsTo_get (by omega)] at hcs1
      obtain rfl := Option.some.inj hcs1
      obtain ⟨kn, ks⟩ := kq hx
      have ha0 : atI (es.map V.ref) (edOf chs.length x) = some (.ref es[(edOf chs.length x).toNat]) := ix_int bd.1 (by rw [List.getElem?_map, List.getElem?_eq_getElem hi]; rfl)
      have ned : x ≠ .non → isEd chs.length x = false → False := fun h1 h2 => by
        rcases hx with q | q
        · exact h1 q
        · rw [h2] at q
          cases q
      by_cases hn : ∃ z, n = .str z
      · obtain ⟨z, rfl⟩ := hn
        refine ⟨_, (pss_cons (ps_set (i := 3) nd rfl (Or.inl rfl) (pcall C2 hr (pa_cons (pe_ix ix_list (pe_fld (pv 0) rfl) (pcallX (E := E) C1 hr (takes_of rfl rfl rfl rfl) (pa_cons (pv 0) (pa_cons (pv 2) pa_nil))) (fun _ _ => rfl)) (pa_cons (pv 1) pa_nil))))
          (pss_cons (ps_if (pt_cmpR op_isN (pv 3) pe_non (nomark _)) (pss_one (ps_raiseG (f := "name") rfl (takes_of rfl rfl rfl rfl) og FU hr2 bU (mg_UnknownName T) (pv 1))) pss_nil)
          (pss_one (ps_ret (pv 3))))), ?_⟩
        refine q_asgX ⟨_, rfl, h, _, dx, _, _, rfl, hh, cl_History T, na_History__editions T, histFs_editions, _, rfl, _, rfl, h, cs, chs, x, tx, rfl, hq, few, htx _, fun _ => ⟨e, es.map V.ref, edOf chs.length x, .ref es[(edOf chs.length x).toNat], rfl, rfl, sqL_of he, ha0, _, rfl, _, as1, colsAt cs chs x, z, rfl, .inl (sqL_of hea), hc1, fun v hv => ?_⟩, fun h1 h2 => (ned h1 h2).elim⟩
        rcases hv with ⟨rfl, hno⟩ | ⟨j, a, c', rfl, ha, hcj, hfi⟩
        · exact ⟨_, rfl, rfl, _, rfl, iteDT rfl ⟨_, rfl, fun d nd' => kn hno d _ (same_new nd') upd_same⟩⟩
        · obtain ⟨c0, q1, q2⟩ := hc1.at_ ha
          obtain rfl : c' = c0 := Option.some.inj (hcj.symm.trans q1)
          exact ⟨_, rfl, rfl, _, rfl, iteD (fun z => by cases z) (nxt ⟨_, rfl, ks a c' hfi q2⟩)⟩
      · have hno : namedV (colsAt cs chs x) n = none := by
          cases n with
          | str z => exact absurd ⟨z, rfl⟩ hn
          | _ => rfl
        have hns : noStr K H n := by
          cases n with
          | non => exact noStr_non
          | bl b => exact ⟨_, .base (.bl b), by decide +kernel⟩
          | int i => exact noStr_int i
          | str z => exact absurd ⟨z, rfl⟩ hn
          | _ => cases okn
        refine ⟨_, (pss_cons (ps_set (i := 3) nd rfl (Or.inl rfl) (pcall C3 hr (pa_cons (pe_ix ix_list (pe_fld (pv 0) rfl) (pcallX (E := E) C1 hr (takes_of rfl rfl rfl rfl) (pa_cons (pv 0) (pa_cons (pv 2) pa_nil))) (fun _ _ => rfl)) (pa_cons (pv 1) pa_nil))))
          (pss_cons (ps_if (pt_cmpR op_isN (pv 3) pe_non (nomark _)) (pss_one (ps_raiseG (f := "name") rfl (takes_of rfl rfl rfl rfl) og FU hr2 bU (mg_UnknownName T) (pv 1))) pss_nil)
          (pss_one (ps_ret (pv 3))))), ?_⟩
        refine q_asgX ⟨_, rfl, h, _, dx, _, _, rfl, hh, cl_History T, na_History__editions T, histFs_editions, _, rfl, _, rfl, h, cs, chs, x, tx, rfl, hq, few, htx _, fun _ => ⟨e, es.map V.ref, edOf chs.length x, .ref es[(edOf chs.length x).toNat], rfl, rfl, sqL_of he, ha0, _, rfl, _, n, rfl, hns, ?_⟩, fun h1 h2 => (ned h1 h2).elim⟩
        exact ⟨_, rfl, rfl, _, rfl, iteDT rfl ⟨_, rfl, fun d nd' => kn hno d _ (same_new nd') upd_same⟩⟩
    · have h1 : x ≠ .non := fun q => hx (.inl q)
      have h2 : isEd chs.length x = false := by
        cases q : isEd chs.length x with
        | false => rfl
        | true => exact absurd (.inr q) hx
      refine ⟨_, (pss_cons (ps_set (i := 3) nd rfl (Or.inl rfl) (pcall C2 hr (pa_cons (pe_ix ix_list (pe_fld (pv 0) rfl) (pcallX (E := E) C1 hr (takes_of rfl rfl rfl rfl) (pa_cons (pv 0) (pa_cons (pv 2) pa_nil))) (fun _ _ => rfl)) (pa_cons (pv 1) pa_nil))))
          (pss_cons (ps_if (pt_cmpR op_isN (pv 3) pe_non (nomark _)) (pss_one (ps_raiseG (f := "name") rfl (takes_of rfl rfl rfl rfl) og FU hr2 bU (mg_UnknownName T) (pv 1))) pss_nil)
          (pss_one (ps_ret (pv 3))))), ?_⟩
      exact q_asgX ⟨_, rfl, h, _, dx, _, _, rfl, hh, cl_History T, na_History__editions T, histFs_editions, _, rfl, _, rfl, h, cs, chs, x, tx, rfl, hq, few, htx _, fun q => absurd q hx, fun _ _ d H' s' hd' => ke h1 h2 d H' s' hd'⟩
  · have h := F.kbinds0 (ps := ["self", "name", "edition"]) 2 ["edition"] [] (fun us mv ws => us ++ ws) (by intro z; cases z) (by intro q hq; cases hq) (fun r1 _ r4 => r1.append r4) (fun D doc pm an cdv ct us mv ws h1 h2 h3 => ?_)
    · obtain ⟨mv, h⟩ := h
      exact ⟨_, h⟩
    · match us, h1, mv, h2, ws, h3 with
      | [u0, u1], _, [], _, [w0], _ => exact rfl
/-- what by_number finds -/
def numbV (cs : List Col) : V → Option Col
  | .int n => cs.find? (isK n)
  | _ => none
def sp_column_numberedN (K : PySem.W.Frag) : Sp := fun vs H Q _ => ∃ (l x : V) (t : String), vs = [l, x] ∧ TyX K H x (.type t) ∧ isI x = false ∧ Q .non H
theorem ok_column_numberedN (T : Tx K mg) : Callee P w K mg base CX0 2 "column_numbered" ["columns", "number"] [] (sp_column_numberedN K) := by
  have C1 := ok_is_whole (P := P) (w := w) (base := base) T
  refine mkCallee (fd_column_numbered T) (mg_column_numbered T) sc_column_numbered (fun _ _ _ _ _ _ us hl => match us, hl with | [_, _], _ => rfl) (fun vs H Q E h => ?_) (fun cdv A outer s H vs Q E hr h => ?_)
  · obtain ⟨l, x, t, rfl, _⟩ := h
    rfl
  obtain ⟨l, x, t, rfl, tx, hi, k⟩ := h
  have nd := sc_column_numbered.nd
  refine ⟨_, pss_cons (ps_if (pt_not (pt_val (pcall C1 hr (pa_cons (pv 1) pa_nil)))) (pss_one (ps_ret pe_non)) pss_nil)
        (pss_cons (ps_for PassesOwn.never rfl (pi_list (pv 0)) (pg_name (i := 2) nd rfl (Or.inl rfl)) (pss_one (ps_if (pt_cmpR op_eq (pe_fld (pv 2) rfl) (pv 1) (nomark _)) (pss_one (ps_ret (pv 2))) pss_nil))) (pss_one (ps_ret pe_non))), ?_⟩
  refine ⟨_, rfl, x, _, rfl, tx, _, rfl, ?_⟩
  rw [hi]
  exact iteT k
def sp_Hist_by_numberX (K : PySem.W.Frag) : Sp := fun vs H Q E => ∃ (h : Addr) (cs : List Col) (chs : List Ch) (n x : V), vs = [.ref h, n, x] ∧ HistAt K H h cs chs ∧ chs.length ≤ 1000 ∧ okV n = true ∧ okV x = true ∧
  (x ≠ .non → isEd chs.length x = false → ∀ (d : Addr) (H' : Hp), Same H H' → H' d = some (.xd [("edition", x)]) → E (.ref (He.ga K "BadEdition")) (some d) H') ∧
  ((x = .non ∨ isEd chs.length x = true) → (numbV (colsAt cs chs x) n = none → Q .non H) ∧ ∀ a c, numbV (colsAt cs chs x) n = some c → ColA K H a c → Q (.ref a) H)
theorem ok_Hist_by_numberX (T : Tx K mg) : ∃ fd, FnOk P w K mg base (L2.CX P w) 5 (He.ma K (He.ga K "History") "by_number") fd ["self", "number", "edition"] (sp_Hist_by_numberX K) ∧ (∃ g, KBn K fd ["self", "number", "edition"] 2 ["edition"] g (fun vs zs => vs ++ zs)) := by
  have C1 := ok_edition_ofX (P := P) (w := w) (base := base) T
  have C2 := (ok_column_numbered (P := P) (w := w) (base := base) T).up (show 2 ≤ 4 by decide)
  have C3 := (ok_column_numberedN (P := P) (w := w) (base := base) T).up (show 2 ≤ 4 by decide)
  obtain ⟨fd, F⟩ := fd_History_by_number T
  refine ⟨fd, F.ok (CX := L2.CX P w) sc_History_by_number (fun vs H Q E h => ?_) (fun cdv A outer s H vs Q E hr h => ?_), ?_⟩
  · obtain ⟨h, cs, chs, n, x, rfl, _⟩ := h
    rfl
  · obtain ⟨h, cs, chs, n, x, rfl, hq, few, okn, okx, ke, kq⟩ := h
    obtain ⟨dx, e, c, b, d, es, ts, hh, he, hE, hc, hC, hb, hd⟩ := id hq
    obtain ⟨tx, htx⟩ := tys_ok (K := K) okx
    obtain ⟨tn, htn⟩ := tys_ok (K := K) okn
    have hlen : es.length = chs.length + 1 := by rw [hE.len, edsTo_len]
    by_cases hx : x = .non ∨ isEd chs.length x = true
    · have bd := isEd_ix hx
      have hi : (edOf chs.length x).toNat < es.length := by omega
      obtain ⟨cs1, as1, hcs1, hea, hc1⟩ := hE.at_ (List.getElem?_eq_getElem hi)
      rw [edsTo_get (by omega)] at hcs1
      obtain rfl := Option.some.inj hcs1
      obtain ⟨kn, ks⟩ := kq hx
      have ha0 : atI (es.map V.ref) (edOf chs.length x) = some (.ref es[(edOf chs.length x).toNat]) := ix_int bd.1 (by rw [List.getElem?_map, List.getElem?_eq_getElem hi]; rfl)
      have ned : x ≠ .non → isEd chs.length x = false → False := fun h1 h2 => by
        rcases hx with q | q
        · exact h1 q
        · rw [h2] at q
          cases q
      by_cases hn : ∃ z, n = .int z
      · obtain ⟨z, rfl⟩ := hn
        refine ⟨_, (pss_one (ps_ret (pcall C2 hr (pa_cons (pe_ix ix_list (pe_fld (pv 0) rfl) (pcallX (E := E) C1 hr (takes_of rfl rfl rfl rfl) (pa_cons (pv 0) (pa_cons (pv 2) pa_nil))) (fun _ _ => rfl)) (pa_cons (pv 1) pa_nil))))), ?_⟩
        refine ⟨_, rfl, h, _, dx, _, _, rfl, hh, cl_History T, na_History__editions T, histFs_editions, _, rfl, _, rfl, h, cs, chs, x, tx, rfl, hq, few, htx _, fun _ => ⟨e, es.map V.ref, edOf chs.length x, .ref es[(edOf chs.length x).toNat], rfl, rfl, sqL_of he, ha0, _, rfl, _, as1, colsAt cs chs x, z, rfl, sqL_of hea, hc1, fun v hv => ?_⟩, fun h1 h2 => (ned h1 h2).elim⟩
        rcases hv with ⟨rfl, hno⟩ | ⟨j, a, c', rfl, ha, hcj, hfi⟩
        · exact kn hno
        · obtain ⟨c0, q1, q2⟩ := hc1.at_ ha
          obtain rfl : c' = c0 := Option.some.inj (hcj.symm.trans q1)
          exact ks a c' hfi q2
      · have hno : numbV (colsAt cs chs x) n = none := by
          cases n with
          | int z => exact absurd ⟨z, rfl⟩ hn
          | _ => rfl
        have hni : isI n = false := by
          cases n with
          | int z => exact absurd ⟨z, rfl⟩ hn
          | _ => rfl
        refine ⟨_, (pss_one (ps_ret (pcall C3 hr (pa_cons (pe_ix ix_list (pe_fld (pv 0) rfl) (pcallX (E := E) C1 hr (takes_of rfl rfl rfl rfl) (pa_cons (pv 0) (pa_cons (pv 2) pa_nil))) (fun _ _ => rfl)) (pa_cons (pv 1) pa_nil))))), ?_⟩
        exact ⟨_, rfl, h, _, dx, _, _, rfl, hh, cl_History T, na_History__editions T, histFs_editions, _, rfl, _, rfl, h, cs, chs, x, tx, rfl, hq, few, htx _, fun _ => ⟨e, es.map V.ref, edOf chs.length x, .ref es[(edOf chs.length x).toNat], rfl, rfl, sqL_of he, ha0, _, rfl, _, n, tn, rfl, htn _, hni, kn hno⟩, fun h1 h2 => (ned h1 h2).elim⟩
    · have h1 : x ≠ .non := fun q => hx (.inl q)
      have h2 : isEd chs.length x = false := by
        cases q : isEd chs.length x with
        | false => rfl
        | true => exact absurd (.inr q) hx
      refine ⟨_, (pss_one (ps_ret (pcall C2 hr (pa_cons (pe_ix ix_list (pe_fld (pv 0) rfl) (pcallX (E := E) C1 hr (takes_of rfl rfl rfl rfl) (pa_cons (pv 0) (pa_cons (pv 2) pa_nil))) (fun _ _ => rfl)) (pa_cons (pv 1) pa_nil))))), ?_⟩
      exact ⟨_, rfl, h, _, dx, _, _, rfl, hh, cl_History T, na_History__editions T, histFs_editions, _, rfl, _, rfl, h, cs, chs, x, tx, rfl, hq, few, htx _, fun q => absurd q hx, fun _ _ d H' s' hd' => ke h1 h2 d H' s' hd'⟩
  · have h := F.kbinds0 (ps := ["self", "number", "edition"]) 2 ["edition"] [] (fun us mv ws => us ++ ws) (by intro z; cases z) (by intro q hq; cases hq) (fun r1 _ r4 => r1.append r4) (fun D doc pm an cdv ct us mv ws h1 h2 h3 => ?_)
    · obtain ⟨mv, h⟩ := h
      exact ⟨_, h⟩
    · match us, h1, mv, h2, ws, h3 with
      | [u0, u1], _, [], _, [w0], _ => exact rfl

/-! try .. with several `except C as e` clauses, each with a name -/
/-- what stands behind a clause's suite: its name is gone -/
abbrev DropI (i : Nat) (D : Ends) : Ends := { nx := fun τ G => D.nx (τ.set i none) G, rt := D.rt, bk := fun τ G => D.bk (τ.set i none) G, ct := fun τ G => D.ct (τ.set i none) G }
/-- what the named clauses wish of an exception, one after the other -/
def wAsM (K : PySem.W.Frag) (Wout : WX) (D : Ends) (i : Nat) : List (Value × (Addr → Value → Option Addr → TS)) → WX
  | [] => Wout
  | (c, ts) :: r => fun cls d σ H => ∃ hit, PySem.W.exmOne K cls c = some hit ∧ (hit = true → ∀ x, H x = none → ts x cls d (DropI i D) (σ.set i (some (.ref x))) H) ∧ (hit = false → wAsM K Wout D i r cls d σ H)
inductive HdsAs (X : Cx) (n : Str) : List ExceptHandler → List (Value × (Addr → Value → Option Addr → TS)) → Prop
  | nil : HdsAs X n [] []
  | cons {x : Str} {c : Value} {ts : Addr → Value → Option Addr → TS} {st : Stmt} {sts : List Stmt} {q1 q2 : Pos} {more : List ExceptHandler} {l : List (Value × (Addr → Value → Option Addr → TS))} (nm : Names X x c)
      (su : ∀ (e : Addr) (oe : Obj) (cls : Value) (d : Option Addr) (pn : List (Addr × Obj)), Zc cls d oe → (∃ fv, oe.data = .fields fv) → PSs (X.suite e ((e, oe) :: pn)) (st :: sts) (ts e cls d)) (rest : HdsAs X n more l) :
      HdsAs X n (.ExceptHandler (some (.Name x q1)) (some n) (st :: sts) q2 :: more) ((c, ts) :: l)
section
variable {X : Cx} {n : Str} {i : Nat} {body : List Stmt} {h₀ : ExceptHandler} {more : List ExceptHandler} {l : List (Value × (Addr → Value → Option Addr → TS))} {pos : Pos} {tb : WX → TS} {Wout : WX}
theorem ps_try_asM (st : X.stack = X.env :: X.outer) (fr : X.env.frame = some X.env.locals) (nN : X.N.Nodup) (at_i : X.N[i]? = some n) (lo : X.env.kindOf n = some .local) (tk : Takes X Wout)
    (hb : ∀ (W : WX) (pn : List (Addr × Obj)) (xe : Value → Shared → Prop), Takes (X.tr pn xe) W → PassesOwn (model X.prog X.w) X.A X.env xe → PSs (X.tr pn xe) body (tb W))
    (hh : HdsAs X n (h₀ :: more) l) : PS X (.Try body (h₀ :: more) [] [] pos) (fun D σ H => tb (wAsM X.K Wout D i l) D σ H) := by
  refine ⟨fun pins s σ H D inv start => ?_⟩
  have fine := inv.ok
  have frames : X.A.frames = some (X.env :: X.outer) := by rw [fine.frames, st]
  have isLoc : Loc X.env.scope n := .inl lo
  refine wpAny_Try_except ?_
  refine wpAny_mono ((hb (wAsM X.K Wout D i l) (X.pn ++ pins) (fun u t1 => wpAny (model X.prog X.w) X.A (noteFrame u X.env) (fun _ t2 => wpAny (model X.prog X.w) X.A (setFlight u none) (fun _ t3 =>
    wpAny (model X.prog X.w) X.A (handleBy u X.env (h₀ :: more)) (SP X pins D) X.xe t3) X.xe t2) X.xe t1) (fun u z thrown => ?_) PassesOwn.looking).run [] s σ H D (inv.toTry _) start) (fun how t1 after => ?_) (fun _ _ z => z)
  · obtain ⟨e, B, sI, pins', τ, G, cls, d, rfl, J', nb, up, sky, na, os, ag, wish⟩ := thrown
    have J : Inv X pins τ G sI := J'.ofTry fine
    have sky' : Sky B (X.env :: X.outer) e (Zc cls d) X.env.locals z.heap := by rw [← st]; exact sky
    show wpAny (model X.prog X.w) X.A (noteFrame (.ref e) X.env) _ _ _
    refine Sky.land Zc.steady frames fr sky' fun h3 fly3 up3 => ?_
    have J3 : Inv X pins τ G { z with heap := h3 } := J.landed nb fly3.1 (up.trans up3) os ag
    obtain ⟨o3, f3, get3, z3, dat3⟩ := fly3.there
    have none_of : ∀ {hp : Heap} {o : Obj} {fv : Array Value}, hp.FunFrames B (X.env :: X.outer) → hp.get? e = some o → o.data = .fields fv → e ∉ frs (X.env :: X.outer) := fun {hp o fv} ff ge da mem => by
      obtain ⟨_, o', ge', no⟩ := ff.mem mem
      rw [ge] at ge'
      cases ge'
      exact no _ da
    have apart := none_of fly3.2.2.1 get3 dat3
    have ne1 : e ≠ X.env.locals := fun q => apart (List.mem_filterMap.mpr ⟨X.env, List.mem_cons_self, by rw [fr, q]⟩)
    have ne2 : e ∉ X.fs := fun mem => by
      obtain ⟨v, hv, q⟩ := List.mem_filterMap.mp mem
      exact apart (List.mem_filterMap.mpr ⟨v, List.mem_cons_of_mem _ hv, q⟩)
    have S3 := J3.suite get3 dat3 na ne1 ne2
    have go : ∀ {hs' : List ExceptHandler} {l' : List (Value × (Addr → Value → Option Addr → TS))}, HdsAs X n hs' l' → wAsM X.K Wout D i l' cls d τ G →
        wpAny (model X.prog X.w) X.A (handleBy (.ref e) X.env hs') (SP X pins D) X.xe { z with heap := h3 } := by
      intro hs' l' ok'
      induction ok' with
      | nil =>
        intro wish
        refine wpAny_handleBy_nil ?_
        obtain ⟨g1, g2, g3, o4, fv, T, oT, ts', ge, hz, da, at1, tr⟩ := id fly3
        unfold PySem.passOn
        refine wpAny_bind (wpAny_field ge da at1 ?_)
        rw [if_neg (show ¬ ((Value.ref T == Value.none) = true) from by simp)]
        have onward : wpAny (model X.prog X.w) X.A (setFlight (.ref e) X.env.frame) (fun _ t4 => wpAny (model X.prog X.w) X.A (throw (.ref e) : Sem Flow) (SP X pins D) X.xe t4) X.xe { z with heap := h3 } := by
          rw [fr]
          refine HandSPX.setFlight_upZ fly3 fun h4 held up4 => wpAny_throw (tk _ _ ?_)
          exact ⟨e, B, sI, pins, τ, G, cls, d, rfl, J, nb, (up.trans up3).trans up4, .inr (.inr (by rw [st]; exact held)), na, os, ag, wish⟩
        first
          | exact wpAny_bind (wpAny_pure (wpAny_bind onward))
          | exact wpAny_bind onward
      | @cons x c ts st1 sts q1 q2 more2 l2 nm su rest ih =>
        intro wish
        obtain ⟨hit, is, yes, no⟩ := wish
        refine wpAny_handleBy_cons (codeAny_handlers_test ?_) (by intro q; cases q)
        have LT : PySem.W.Looks (model X.prog X.w) h3 (typeOf (.ref e)) cls := fun A Q E s keep q => wpAny_typeOf_ref (keep _ _ get3) (by rw [z3.1]; exact q)
        have LM := PySem.W.exm_one (M := model X.prog X.w) (J3.kIn) LT is
        have asked : ∀ {Q : Value → Shared → Prop} {E : Value → Shared → Prop}, Q c { z with heap := h3 } → wpAny (model X.prog X.w) (X.A.mark (some (.ref e))) (eval (.Name x q1) X.env) Q E { z with heap := h3 } := fun {Q E} q => by
          obtain ⟨gl, ndb, own | ⟨out, bv, nn⟩⟩ := nm
          · exact ld_glob (X := X.suite e ((e, o3) :: (X.pn ++ pins))) S3 gl own q ndb
          · exact ld_blt (X := X.suite e ((e, o3) :: (X.pn ++ pins))) S3 gl out bv q nn ndb
        refine asked (LM.here ?_)
        cases hit with
        | true =>
          refine codeAny_handlers_suite_as ?_
          refine HandSPX.lands_againZ fly3 fun h4 fly4 up4 => ?_
          have J4 : Inv X pins τ G { z with heap := h4 } := J.landed nb fly4.1 ((up.trans up3).trans up4) os ag
          obtain ⟨o4, f4, get4, z4, dat4⟩ := fly4.there
          have S4 := J4.suite get4 dat4 na ne1 ne2
          refine store_ok (X := X.suite e ((e, o4) :: (X.pn ++ pins))) (v := .ref e) S4 nN at_i isLoc rfl (fun s5 S5 => ?_) (.inr lo)
          refine wpAny_mono ((su e o4 cls d (X.pn ++ pins) z4 ⟨_, dat4⟩).run [] s5 _ G _ S5 (yes rfl e na)) (fun how s6 after => ?_) (fun _ _ q => False.elim q)
          have leave : ∀ {τ6 : L2.St} {G6 : Hp} {Q : Shared → Prop}, Inv (X.suite e ((e, o4) :: (X.pn ++ pins))) [] τ6 G6 s6 → (∀ s7, Inv X pins (τ6.set i none) G6 s7 → Q s7) →
              wpAny (model X.prog X.w) X.A (do bindName X.env n .none; unbindBehindTheSuite X.env n q2) (fun _ s7 => Q s7) X.xe s6 := fun {τ6 G6 Q} S6 hq => gone_ok (S6.unsuite fine) nN at_i lo hq
          cases how with
          | next =>
            obtain ⟨τ6, G6, S6, q6⟩ := after
            exact leave S6 fun s7 J7 => ⟨_, _, J7, q6⟩
          | brk =>
            obtain ⟨τ6, G6, S6, q6⟩ := after
            exact leave S6 fun s7 J7 => ⟨_, _, J7, q6⟩
          | cont =>
            obtain ⟨τ6, G6, S6, q6⟩ := after
            exact leave S6 fun s7 J7 => ⟨_, _, J7, q6⟩
          | ret u =>
            obtain ⟨v6, τ6, G6, S6, r6, q6⟩ := after
            exact leave S6 fun s7 J7 => ⟨_, _, _, J7, r6, q6⟩
        | false =>
          show wpAny _ X.A (handleBy (.ref e) X.env more2) _ _ _
          exact ih (no rfl)
    exact go hh wish
  · cases how with
    | next =>
      obtain ⟨τ, G, J', q⟩ := after
      exact wpAny_execs_nil ⟨τ, G, J'.ofTry fine, q⟩
    | brk =>
      obtain ⟨τ, G, J', q⟩ := after
      exact ⟨τ, G, J'.ofTry fine, q⟩
    | cont =>
      obtain ⟨τ, G, J', q⟩ := after
      exact ⟨τ, G, J'.ofTry fine, q⟩
    | ret u =>
      obtain ⟨v, τ, G, J', r, q⟩ := after
      exact ⟨v, τ, G, J'.ofTry fine, r, q⟩
end

theorem ok_BadPart_init (T : Tx K mg) : ∃ fd, FnOk P w K mg base CX0 1 (He.ma K (He.ga K "BadPart") "__init__") fd ["self", "part"] (sp_keep1 K "BadPart" "part") ∧ Binds K fd ["self", "part"] [] := by
  have ox := oexB_ok (ex_BadPart_x T)
  refine mkMeth (fd_BadPart___init__ T) sc_BadPart___init__ (fun _ _ _ _ _ _ us hl => match us, hl with | [_, _], _ => rfl) (fun vs H Q E h => ?_) (fun cdv A outer s H vs Q E hr h => ?_)
  · obtain ⟨a, v, rfl, _⟩ := h
    rfl
  obtain ⟨a, v, rfl, ha, k⟩ := h
  exact ⟨_, pss_one (ps_ost (pv 0) (pv 1)), _, rfl, _, rfl, a, _, rfl, ox.o, ox.no, .inl ⟨ha, fun dx nd ne => k dx nd ne⟩⟩
-- needs: Column.__init__ BadPart.__init__ +RAISE +REPV
/-! Column.__init__ at any values: the first part that is wrong is told -/
def badC (n g d k : V) : Option Str := if isNm n = false then some "name" else if isGr g = false then some "greatest" else if (match g with
  | .int j => isIn j d
  | _ => false) = false then some "default" else if (match k with
  | .int j => decide (0 ≤ j)
  | _ => false) = false then some "number" else none
def TyAll (K : PySem.W.Frag) (H : Hp) (x : V) : Prop := ∃ t, ∀ H', Same H H' → TyX K H' x (.type t)
def sp_Col_initX (K : PySem.W.Frag) : Sp := fun vs H Q E => ∃ (c dx : Addr) (n g d k : V), vs = [.ref c, n, g, d, k] ∧ H c = some (.ins (He.ga K "Column") dx []) ∧ TyAll K H n ∧ TyAll K H g ∧ TyAll K H d ∧ TyAll K H k ∧ (∀ z, n = .str z → z.length ≤ 1000) ∧
  (∀ (n0 : Str) (g0 k0 : Int) (H' : Hp), n = .str n0 → g = .int g0 → k = .int k0 → badC n g d k = none → ColAt K H' c n0 g0 d k0 → (∀ b o, b ≠ c → H b = some o → H' b = some o) → Q .non H') ∧
  ∀ (p : Str) (e : Addr) (H' : Hp), badC n g d k = some p → Same H H' → H' e = some (.xd [("part", .str p)]) → E (.ref (He.ga K "BadPart")) (some e) H'
theorem isI_int {k : V} (h : isI k = true) : ∃ j, k = .int j := by
  cases k with
  | int j => exact ⟨j, rfl⟩
  | _ => cases h
theorem ok_Col_initX (T : Tx K mg) : ∃ fd, FnOk P w K mg base (L2.CX P w) 4 (He.ma K (He.ga K "Column") "__init__") fd ["self", "name", "greatest", "default", "number"] (sp_Col_initX K) ∧
    FunD K "__init__" "Column.__init__" (defArgs s_Column___init__) (defBody s_Column___init__) (defScope s_Column___init__) (d_Column___init__.dvs K) (d_Column___init__.kws K) (He.ma K (He.ga K "Column") "__init__") fd := by
  have C1 := (ok_is_name (P := P) (w := w) (base := base) T).up (show 1 ≤ 3 by decide)
  have C2 := (ok_is_greatest (P := P) (w := w) (base := base) T).up (show 2 ≤ 3 by decide)
  have C3 := ok_is_within (P := P) (w := w) (base := base) T
  have C4 := (ok_is_whole (P := P) (w := w) (base := base) T).up (show 1 ≤ 3 by decide)
  obtain ⟨fdE, FE, bE⟩ := ok_BadPart_init (P := P) (w := w) (base := base) T
  have ox := oexB_ok (ex_BadPart_x T)
  obtain ⟨fd, F⟩ := fd_Column___init__ T
  refine ⟨fd, F.ok (CX := L2.CX P w) sc_Column___init__ (fun vs H Q E h => ?_) (fun cdv A outer s H vs Q E hr h => ?_), F⟩
  · obtain ⟨c, dx, n, g, d, k, rfl, _⟩ := h
    rfl
  obtain ⟨c, dx, n, g, d, k, rfl, hc, tn, tg, td, tk, hn0, kQ, kE⟩ := h
  have cl := cl_Column T
  have hr2 : Room 2 _ := hr.mono (by decide)
  refine ⟨_, pss_cons (ps_if (pt_not (pt_val (pcall C1 hr (pa_cons (pv 1) pa_nil)))) (pss_one (ps_raise1 (f := "part") rfl (takes_of rfl rfl rfl rfl) ox FE hr2 bE (mg_BadPart T) pe_str)) pss_nil)
    (pss_cons (ps_if (pt_not (pt_val (pcall C2 hr (pa_cons (pv 2) pa_nil)))) (pss_one (ps_raise1 (f := "part") rfl (takes_of rfl rfl rfl rfl) ox FE hr2 bE (mg_BadPart T) pe_str)) pss_nil)
    (pss_cons (ps_if (pt_not (pt_val (pcall C3 hr (pa_cons (pv 3) (pa_cons (pv 2) pa_nil))))) (pss_one (ps_raise1 (f := "part") rfl (takes_of rfl rfl rfl rfl) ox FE hr2 bE (mg_BadPart T) pe_str)) pss_nil)
    (pss_cons (ps_if (PW.pt (pw_or (pt_not (pt_val (pcall C4 hr (pa_cons (pv 4) pa_nil)))) (pw_or1 (pt_cmpR op_lt (pv 4) pe_int (nomark _))))) (pss_one (ps_raise1 (f := "part") rfl (takes_of rfl rfl rfl rfl) ox FE hr2 bE (mg_BadPart T) pe_str)) pss_nil)
    (pss_cons (ps_fld (pv 0) (pv 1) rfl) (pss_cons (ps_fld (pv 0) (pv 2) rfl) (pss_cons (ps_fld (pv 0) (pv 3) rfl) (pss_one (ps_fld (pv 0) (pv 4) rfl)))))))), ?_⟩
  obtain ⟨t1, tn⟩ := tn
  obtain ⟨t2, tg⟩ := tg
  obtain ⟨t3, td⟩ := td
  obtain ⟨t4, tk⟩ := tk
  refine ⟨_, rfl, n, t1, rfl, tn _ (Same.refl _), hn0, fun H1 s1 => ⟨_, rfl, ?_⟩⟩
  cases b1 : isNm n with
  | false =>
    refine iteT fun e ne => kE "name" e _ ?_ (s1.trans (same_new ne)) upd_same
    unfold badC
    rw [if_pos b1]
  | true =>
    refine iteF ⟨_, rfl, g, t2, rfl, tg _ s1, _, rfl, ?_⟩
    cases b2 : isGr g with
    | false =>
      refine iteT fun e ne => kE "greatest" e _ ?_ (s1.trans (same_new ne)) upd_same
      unfold badC
      rw [if_neg (by rw [b1]; decide), if_pos b2]
    | true =>
      have hg : ∃ j, g = .int j := by
        cases g with
        | int j => exact ⟨j, rfl⟩
        | _ => cases b2
      obtain ⟨g0, rfl⟩ := hg
      refine iteF ⟨_, rfl, _, rfl, d, g0, t3, rfl, td _ s1, _, rfl, ?_⟩
      cases b3 : isIn g0 d with
      | false =>
        refine iteT fun e ne => kE "default" e _ ?_ (s1.trans (same_new ne)) upd_same
        unfold badC
        rw [if_neg (by rw [b1]; decide), if_neg (by rw [b2]; decide), if_pos b3]
      | true =>
        refine iteF ⟨_, rfl, k, t4, rfl, tk _ s1, _, rfl, ?_⟩
        cases b4 : isI k with
        | false =>
          refine iteT fun e ne => kE "number" e _ ?_ (s1.trans (same_new ne)) upd_same
          unfold badC
          rw [if_neg (by rw [b1]; decide), if_neg (by rw [b2]; decide), if_neg (by show ¬ isIn g0 d = false; rw [b3]; decide), if_pos]
          cases k with
          | int j => cases b4
          | _ => rfl
        | true =>
          obtain ⟨k0, rfl⟩ := isI_int b4
          refine iteF ⟨_, rfl, _, _, rfl, rfl, _, rfl, ?_⟩
          by_cases b5 : k0 < 0
          · rw [decide_eq_true b5]
            refine iteT fun e ne => kE "number" e _ ?_ (s1.trans (same_new ne)) upd_same
            unfold badC
            rw [if_neg (by rw [b1]; decide), if_neg (by rw [b2]; decide), if_neg (by show ¬ isIn g0 d = false; rw [b3]; decide), if_pos (decide_eq_false (by omega))]
          · rw [decide_eq_false b5]
            refine iteF ?_
            have hn : ∃ z, n = .str z := by
              cases n with
              | str z => exact ⟨z, rfl⟩
              | _ => cases b1
            obtain ⟨n0, rfl⟩ := hn
            have hc1 := s1 _ _ hc
            refine ⟨_, rfl, _, rfl, c, _, dx, _, rfl, hc1, cl, na_Column_name T, (by show 0 < 1000; decide), ?_⟩
            refine ⟨_, rfl, _, rfl, c, _, dx, _, rfl, upd_same, cl, na_Column_greatest T, (by show 1 < 1000; decide), ?_⟩
            refine ⟨_, rfl, _, rfl, c, _, dx, _, rfl, upd_same, cl, na_Column_default T, (by rw [put2]; show 2 < 1000; decide), ?_⟩
            refine ⟨_, rfl, _, rfl, c, _, dx, _, rfl, upd_same, cl, na_Column_number T, (by rw [put3]; show 3 < 1000; decide), ?_⟩
            refine kQ n0 g0 k0 _ rfl rfl rfl ?_ ⟨dx, ?_⟩ fun b o hb e => by rw [upd_ne hb, upd_ne hb, upd_ne hb, upd_ne hb]; exact s1 _ _ e
            · unfold badC
              rw [if_neg (by rw [b1]; decide), if_neg (by rw [b2]; decide), if_neg (by show ¬ isIn g0 d = false; rw [b3]; decide), if_neg (by show ¬ decide (0 ≤ k0) = false; rw [decide_eq_true (by omega)]; decide)]
            · rw [upd_same, colFs_eq]

-- needs: Column.changed is_word +COLX
/-! Column.changed at any values -/
/-- the clause of a catcher, whatever the local names hold -/
theorem passAll {X : Cx} {W : WX} (tk : Takes X W) : Passes (L2.CX X.prog X.w) X (fun cls d H => ∀ σ : L2.St, σ.length = X.N.length → W cls d σ H) := fun pins σ H s e s' I c => by
  obtain ⟨a, B, H', cls, d, r1, r2, r3, r4, r5, r6, r7, r8⟩ := c
  exact passAt tk σ pins H s e s' I ⟨a, B, H', cls, d, r1, r2, r3, r4, r5, r6, r7, r8 σ I.len⟩
abbrev P4 : List V := [.str "name", .str "greatest", .str "default", .str "number"]
def fourF (p : Str) (v n g d k : V) : V × V × V × V := if p = "name" then (v, g, d, k) else if p = "greatest" then (n, v, d, k) else if p = "default" then (n, g, v, k) else (n, g, d, v)
theorem four_of {p : Str} (v n g d k : V) (h : wordV (.str p) P4 = true) : Four p v n g d k (fourF p v n g d k).1 (fourF p v n g d k).2.1 (fourF p v n g d k).2.2.1 (fourF p v n g d k).2.2.2 := by
  refine ⟨?_, rfl⟩
  have h : inV (.str p) P4 = true := h
  unfold inV at h
  obtain ⟨y, hy, e⟩ := List.any_eq_true.mp h
  rcases List.mem_cons.mp hy with rfl | hy
  · exact .inl (eq_of_beq (show (("name" : Str) == p) = true from e)).symm
  rcases List.mem_cons.mp hy with rfl | hy
  · exact .inr (.inl (eq_of_beq (show (("greatest" : Str) == p) = true from e)).symm)
  rcases List.mem_cons.mp hy with rfl | hy
  · exact .inr (.inr (.inl (eq_of_beq (show (("default" : Str) == p) = true from e)).symm))
  rcases List.mem_cons.mp hy with rfl | hy
  · exact .inr (.inr (.inr (eq_of_beq (show (("number" : Str) == p) = true from e)).symm))
  · cases hy
def sp_changedX (K : PySem.W.Frag) : Sp := fun vs H Q E => ∃ (c : Addr) (part v : V) (n : Str) (g k : Int) (d : V), vs = [.ref c, part, v] ∧ ColAt K H c n g d k ∧ n.length ≤ 1000 ∧ TyAll K H part ∧ TyAll K H v ∧ TyAll K H d ∧ (∀ z, v = .str z → z.length ≤ 1000) ∧
  (∀ (e : Addr) (H' : Hp), wordV part P4 = false → Same H H' → H' e = some (.xd [("part", part)]) → E (.ref (He.ga K "BadPart")) (some e) H') ∧
  ∀ (p : Str), part = .str p → wordV part P4 = true → ∀ (n' g' d' k' : V), fourF p v (.str n) (.int g) d (.int k) = (n', g', d', k') →
    (∀ (a : Addr) (n0 : Str) (g0 k0 : Int) (H' : Hp), n' = .str n0 → g' = .int g0 → k' = .int k0 → badC n' g' d' k' = none → H a = none → Same H H' → ColAt K H' a n0 g0 d' k0 → Q (.ref a) H') ∧
    ∀ (q : Str) (e : Addr) (H' : Hp), badC n' g' d' k' = some q → Same H H' → H' e = some (.xd [("part", .str q)]) → E (.ref (He.ga K "BadPart")) (some e) H'
theorem TyAll.keep {K : PySem.W.Frag} {H H' : Hp} {x : V} (s : Same H H') (h : TyAll K H x) : TyAll K H' x := by
  obtain ⟨t, h⟩ := h
  exact ⟨t, fun H2 s2 => h H2 (s.trans s2)⟩
theorem tyAll_str {K : PySem.W.Frag} {H : Hp} (z : Str) : TyAll K H (.str z) := ⟨_, fun _ _ => .base (.str z)⟩
theorem tyAll_int {K : PySem.W.Frag} {H : Hp} (z : Int) : TyAll K H (.int z) := ⟨_, fun _ _ => .base (.int z)⟩
theorem tyAll_non {K : PySem.W.Frag} {H : Hp} : TyAll K H .non := ⟨_, fun _ _ => .base .non⟩
theorem tyAll_bl {K : PySem.W.Frag} {H : Hp} (b : Bool) : TyAll K H (.bl b) := ⟨_, fun _ _ => .base (.bl b)⟩
theorem ok_changedX (T : Tx K mg) : ∃ fd, FnOk P w K mg base (L2.CX P w) 6 (He.ma K (He.ga K "Column") "changed") fd ["self", "part", "value"] (sp_changedX K) ∧ Binds K fd ["self", "part", "value"] [] := by
  obtain ⟨fdI, GI, FI⟩ := ok_Col_initX (P := P) (w := w) (base := base) T
  obtain ⟨_, _, kb⟩ := kbinds_Col T FI
  obtain ⟨fdE, FE, bE⟩ := ok_BadPart_init (P := P) (w := w) (base := base) T
  have ox := oexB_ok (ex_BadPart_x T)
  obtain ⟨fd, F⟩ := fd_Column_changed T
  have cl := cl_Column T
  refine ⟨fd, F.ok (CX := L2.CX P w) sc_Column_changed (fun vs H Q E h => ?_) (fun cdv A outer s H vs Q E hr h => ?_), F.bindsN fun _ _ _ _ _ _ us hl => match us, hl with | [_, _, _], _ => rfl⟩
  · obtain ⟨c, part, v, n, g, k, d, rfl, _⟩ := h
    rfl
  obtain ⟨c, part, v, n, g, k, d, rfl, ⟨dx, hc⟩, hnl, tp, tv, td, hvl, kW, kF⟩ := h
  have nd := sc_Column_changed.nd
  have hu := hu_of hr
  have hr2 : Room 2 _ := hr.mono (by decide)
  have CW := (ok_is_word (P := P) (w := w) (base := base) T).up (show 1 ≤ 5 by decide)
  refine ⟨_, pss_cons (ps_if (pt_not (pt_val (pcall CW hr (pa_cons (pv 1) (pa_cons (pe_glob (v := .ref (He.ga K "PARTS")) (by rfl) (mg_PARTS T) rfl) pa_nil))))) (pss_one (ps_raise1 (f := "part") rfl (takes_of rfl rfl rfl rfl) ox FE hr2 bE (mg_BadPart T) (pv 1))) pss_nil)
    (pss_cons (ps_set (i := 3) nd rfl (Or.inl rfl) (pe_disp (pps_cons pe_str (pe_fld (pv 0) rfl) (pps_cons pe_str (pe_fld (pv 0) rfl) (pps_cons pe_str (pe_fld (pv 0) rfl) (pps_cons pe_str (pe_fld (pv 0) rfl) pps_nil)))) (by rfl) (by rfl) (fun z => by cases z) (by decide)))
    (pss_cons (ps_dput hu (pv 3) (pv 1) (pv 2) rfl)
    (pss_one (ps_ret (pe_makeK (mk_Column T) GI hr (by rfl) (mg_Column T) kb (passE (takes_of rfl rfl rfl rfl)) (pa_cons (pe_dget hu (pv 3) pe_str (fun _ _ => rfl)) (pa_cons (pe_dget hu (pv 3) pe_str (fun _ _ => rfl)) (pa_cons (pe_dget hu (pv 3) pe_str (fun _ _ => rfl)) pa_nil)))
      (pk_cons (pe_dget hu (pv 3) pe_str (fun _ _ => rfl)) pk_nil)))))), ?_⟩
  have hP : SqT K H (He.ga K "PARTS") P4 := He.tupB_ok (ex_PARTS T) H
  obtain ⟨t1, tp1⟩ := id tp
  refine ⟨_, rfl, part, t1, _, _, rfl, tp1 _ (Same.refl _), hP, rfl, _, rfl, ?_⟩
  cases hw : wordV part P4 with
  | false => exact iteT ⟨_, rfl, fun e ne => kW e _ hw (same_new ne) upd_same⟩
  | true =>
    have hp : ∃ p, part = .str p := by
      cases part with
      | str p => exact ⟨p, rfl⟩
      | _ => cases hw
    obtain ⟨p0, rfl⟩ := hp
    refine iteF (nxt ?_)
    have f4 := four_of v (.str n) (.int g) d (.int k) hw
    obtain ⟨⟨n', g', d', k'⟩, e4⟩ : ∃ q : V × V × V × V, fourF p0 v (.str n) (.int g) d (.int k) = q := ⟨_, rfl⟩
    obtain ⟨kQ, kE⟩ := kF p0 rfl hw n' g' d' k' e4
    have htys : TyAll K H (fourF p0 v (.str n) (.int g) d (.int k)).1 ∧ TyAll K H (fourF p0 v (.str n) (.int g) d (.int k)).2.1 ∧ TyAll K H (fourF p0 v (.str n) (.int g) d (.int k)).2.2.1 ∧ TyAll K H (fourF p0 v (.str n) (.int g) d (.int k)).2.2.2 ∧ (∀ z, (fourF p0 v (.str n) (.int g) d (.int k)).1 = .str z → z.length ≤ 1000) := by
      have hn : ∀ z, V.str n = .str z → z.length ≤ 1000 := fun z e => by cases e; exact hnl
      unfold fourF
      split
      · exact ⟨tv, tyAll_int g, td, tyAll_int k, hvl⟩
      · split
        · exact ⟨tyAll_str n, tv, td, tyAll_int k, hn⟩
        · split
          · exact ⟨tyAll_str n, tyAll_int g, tv, tyAll_int k, hn⟩
          · exact ⟨tyAll_str n, tyAll_int g, td, tv, hn⟩
    rw [e4] at f4 htys
    obtain ⟨y1, y2, y3, y4, y5⟩ := htys
    refine fun p np => ?_
    have hc1 : ∀ o, upd H p o c = some (.ins (He.ga K "Column") dx (colFs n g d k)) := fun o => same_new np _ _ hc
    refine ⟨_, rfl, c, _, dx, _, _, rfl, hc1 _, cl, na_Column_name T, colFs_name, _, rfl, c, _, dx, _, _, rfl, hc1 _, cl, na_Column_greatest T, colFs_greatest, _, rfl, c, _, dx, _, _, rfl, hc1 _, cl, na_Column_default T, colFs_default,
      _, rfl, c, _, dx, _, _, rfl, hc1 _, cl, na_Column_number T, colFs_number, upd_same, [(Sum.inr "name", .str n), (Sum.inr "greatest", .int g), (Sum.inr "default", d), (Sum.inr "number", .int k)], rfl, (by show 4 ≤ 15; decide), ?_⟩
    rw [upd_upd, merge4]
    refine ⟨_, rfl, _, rfl, _, rfl, p, _, rfl, DPut.k (k := Sum.inr p0) upd_same (by show 4 < sizeLine; decide), ?_⟩
    rw [upd_upd]
    obtain ⟨q1, q2, q3, q4⟩ := put_get f4
    have hp : upd H p (.dK (put p0 v (.str n) (.int g) d (.int k))) p = some (.dK (put p0 v (.str n) (.int g) d (.int k))) := upd_same
    have s1 : Same H (upd H p (.dK (put p0 v (.str n) (.int g) d (.int k)))) := same_new np
    have g1 : DGet (upd H p (.dK (put p0 v (.str n) (.int g) d (.int k)))) p (.str "name") (some n') := by
      rw [← q1]
      exact DGet.k (k := Sum.inr "name") hp
    have g2 : DGet (upd H p (.dK (put p0 v (.str n) (.int g) d (.int k)))) p (.str "greatest") (some g') := by
      rw [← q2]
      exact DGet.k (k := Sum.inr "greatest") hp
    have g3 : DGet (upd H p (.dK (put p0 v (.str n) (.int g) d (.int k)))) p (.str "default") (some d') := by
      rw [← q3]
      exact DGet.k (k := Sum.inr "default") hp
    have g4 : DGet (upd H p (.dK (put p0 v (.str n) (.int g) d (.int k)))) p (.str "number") (some k') := by
      rw [← q4]
      exact DGet.k (k := Sum.inr "number") hp
    refine ⟨_, rfl, p, _, rfl, g1, _, rfl, p, _, rfl, g2, _, rfl, p, _, rfl, g3, _, rfl, p, _, rfl, g4, rfl, rfl, fun x dx2 nx ndx ndc => ?_⟩
    have s2 := s1.trans (show Same _ (upd (upd (upd H p (.dK (put p0 v (.str n) (.int g) d (.int k)))) dx2 (.own x)) x (.ins (He.ga K "Column") dx2 [])) from fun b o e => by rw [upd_ne (ne_of_none e nx), upd_ne (ne_of_none e ndx)]; exact e)
    refine ⟨x, dx2, n', g', d', k', rfl, upd_same, y1.keep s2, y2.keep s2, y3.keep s2, y4.keep s2, y5, fun n0 g0 k0 H4 e1 e2 e3 eb hc4 k4 => ⟨rfl, ?_⟩, fun q e H4 eb s4 he => kE q e H4 eb (s2.trans s4) he⟩
    exact kQ x n0 g0 k0 H4 e1 e2 e3 eb (s1.free nx) (fun b o e => k4 b o (ne_of_none (s1 _ _ e) nx) (s2 _ _ e)) hc4

/-! repr of None, a bool, an int, a text -/
def reprV : V → Str
  | .non => "None"
  | .bl b => if b then "True" else "False"
  | .int i => toString i
  | .str x => reprText x
  | _ => ""
def okR : V → Bool
  | .non => true
  | .bl _ => true
  | .int i => decide (i.natAbs.log2 < 1920)
  | .str x => decide ((reprText x).length ≤ sizeLine)
  | _ => false
theorem call_reprV {X : Cx} : CallR X (.builtin "repr") (fun xs H Q => ∃ v, xs = [v] ∧ okR v = true ∧ Q (.str (reprV v)) H) := by
  intro pins s σ H xs us Q I r h
  obtain ⟨v, rfl, ok, q⟩ := h
  obtain ⟨u, rfl, hu⟩ := vals1 r
  cases v with
  | non =>
    obtain rfl : u = Value.none := hu
    exact PySem.P.repr_of_none ⟨.str _, H, I.tok _, ⟨_, rfl⟩, q⟩
  | bl b =>
    obtain rfl : u = Value.bool b := hu
    exact PySem.P.repr_of_bool ⟨.str _, H, I.tok _, ⟨_, rfl⟩, q⟩
  | int i =>
    obtain ⟨t, rfl⟩ := hu
    exact PySem.P.repr_of_int (of_decide_eq_true ok) ⟨.str _, H, I.tok _, ⟨_, rfl⟩, q⟩
  | str x =>
    obtain ⟨t, rfl⟩ := hu
    exact PySem.P.repr_of_str ⟨.str _, H, I.tok _, ⟨_, rfl⟩, q⟩ (of_decide_eq_true ok)
  | _ => cases ok
theorem strOk_of (s : String) : PyData.strOk (Str.ofString s) = true := by
  rw [Str.ofString_eq_toList]
  unfold PyData.strOk
  rw [List.all_toArray, List.all_map, List.all_eq_true]
  intro c _
  refine decide_eq_true ?_
  show c.toNat < 1114112
  have := c.valid
  unfold UInt32.isValidChar Nat.isValidChar at this
  have e : c.toNat = c.val.toNat := rfl
  omega
theorem repr_okV : ∀ {v : V}, (∀ x, v ≠ .str x) → okR v = true → okV (.str (reprV v)) = true
  | .non, _, _ => by decide +kernel
  | .bl true, _, _ => by decide +kernel
  | .bl false, _, _ => by decide +kernel
  | .int i, _, _ => strOk_of (toString i)
  | .str x, h, _ => absurd rfl (h x)
  | .byt _, _, h => by cases h
  | .flt _, _, h => by cases h
  | .ref _, _, h => by cases h
  | .ty _, _, h => by cases h

/-! clauses `except C as e: return [word, repr(e.field)]` -/
/-- the clauses' wish, whatever the n local names hold -/
abbrev WAll (n : Nat) (W : WX) : XK := fun cls d H => ∀ σ : L2.St, σ.length = n → W cls d σ H
theorem passAllN {X : Cx} {W : WX} {n : Nat} (tk : Takes X W) (hn : X.N.length = n) : Passes (L2.CX X.prog X.w) X (WAll n W) := by
  subst hn
  exact passAll tk
section
variable {K : PySem.W.Frag} {Wout : WX} {D : Ends} {i : Nat} {c : Value} {ts : Addr → Value → Option Addr → TS} {r : List (Value × (Addr → Value → Option Addr → TS))} {cls : Value} {d : Option Addr} {σ : L2.St} {H : Hp}
theorem asM_hit (h : PySem.W.exmOne K cls c = some true) (k : ∀ x, H x = none → ts x cls d (DropI i D) (σ.set i (some (.ref x))) H) : wAsM K Wout D i ((c, ts) :: r) cls d σ H := ⟨true, h, fun _ => k, (fun q => by cases q)⟩
theorem asM_skip (h : PySem.W.exmOne K cls c = some false) (k : wAsM K Wout D i r cls d σ H) : wAsM K Wout D i ((c, ts) :: r) cls d σ H := ⟨false, h, (fun q => by cases q), fun _ => k⟩
/-- what such a suite does: rep is what repr asks -/
def tsWR (K : PySem.W.Frag) (rep : List V → Hp → VK → Prop) (x f w : Str) (i : Nat) : Addr → Value → Option Addr → TS := fun a cls d => tRet (tLst (tCons (tC (.str w)) (tCons (tCB rep (tCons (tXf a cls d (He.ga K x) f (tVar i)) tNil)) tNil)))
def rRepV : List V → Hp → VK → Prop := fun xs H Q => ∃ v, xs = [v] ∧ okR v = true ∧ Q (.str (reprV v)) H
theorem tsWR_ok {rep : List V → Hp → VK → Prop} {x f w z : Str} {a dd : Addr} {v : V} (len : i < σ.length) (hd : H dd = some (.xd [(f, v)])) (rp : ∀ Q : VK, Q (.str z) H → rep [v] H Q) (k : ∀ (p : Addr) (H' : Hp), Same H H' → H' p = some (.lst [.str w, .str z]) → D.rt (.ref p) H') :
    tsWR K rep x f w i a (.ref (He.ga K x)) (some dd) (DropI i D) (σ.set i (some (.ref a))) H := by
  refine ⟨_, ?_, rfl, rfl, dd, _, v, rfl, hd, ?_, rp _ ⟨?_, fun p np => k p _ (same_new np) upd_same⟩⟩
  · rw [List.getElem?_set, if_pos rfl, if_pos len]
  · simp [List.lookup]
  · show 2 ≤ sizeLine
    decide
end

/-! o.m(e, .., k = v, ..): a method called with keywords -/
def tMethN (C : Addr) (m : Str) (n k : Nat) (sp : Sp) (gV : List V → List V → List V) (E : XK) (ta : TE) (t tk : TA) : TE := fun σ H Q => ta σ H fun x H1 => ∃ a dx fs, x = .ref a ∧ H1 a = some (.ins C dx fs) ∧ fs.lookup m = none ∧
  t σ H1 fun vs H2 => tk σ H2 fun zs H3 => vs.length + 1 = n ∧ zs.length = k ∧ sp (gV (.ref a :: vs) zs) H3 Q E
section
variable {X : Cx} {CX : CXT} {k n : Nat} {f C : Addr} {fd : FuncData} {ps ks : List Str} {sp : Sp} {E : XK} {m : Str} {apos pos : Pos} {o e : Expr} {es : List Expr} {kws : List Keyword} {ta : TE} {t tk : TA} {g : List Value → List Value → List Value} {gV : List V → List V → List V}
theorem pe_methN {pl : Sem Bool} (he : PE X o ta) (c : Cls X.K C) (hm : Meth X.K C m f) (F : FnOk X.prog X.w X.K X.mg X.base CX k f fd ps sp) (hr : Room k X.A) (hb : KBn X.K fd ps n ks g gV) (hx : Passes CX X E) (ha : PA X (e :: es) t) (hkw : PK X kws tk)
    (hall : (backToKw pos (keywordEach kws X.env)).all (·.1.isSome) = true := by rfl) (hks : (backToKw pos (keywordEach kws X.env)).filterMap (·.1) = ks := by rfl)
    (hst : starEach (e :: es) X.env = (false, eval e X.env) :: starEach es X.env := by rfl)
    (hpl : ((backTo pos (starEach (e :: es) X.env)).any (·.1) || (backToKw pos (keywordEach kws X.env)).any (·.1.isNone)) = false := by rfl)
    (ht : eval (.Call (.Attribute o m apos) (e :: es) kws pos) X.env = (do
      let ov ← eval o X.env
      standAt apos.atName
      let (f, first) ← holding [ov] (getMethod ov m pl)
      callWith pos f first (backTo pos (starEach (e :: es) X.env)) (backToKw pos (keywordEach kws X.env))) := by rfl) :
    PE X (.Call (.Attribute o m apos) (e :: es) kws pos) (tMethN C m n ks.length sp gV E ta t tk) := by
  refine ⟨fun pins s σ H Q I h => ?_⟩
  refine PySem.W.methodCall_KW (pl := pl) (thn (he.run pins s σ H _ I h) fun u s1 ⟨x, H1, I1, rx, a, dx, fs, ex, ea, l, q⟩ => ?_) ht
  subst ex
  obtain rfl : u = Value.ref a := rx
  refine getmeth_ok I1 ea c hm l ?_
  refine PySem.W.callWith_KW (first := [.ref a]) (h₀ := X.base) I.ok.mod.kin hm.kp hall (thn (ha.run pos pins s1 σ H1 _ I1 q) fun us s2 ⟨vs, H2, I2, r, q2⟩ => ?_) hpl hst
  refine thn (hkw.run pos pins s2 σ H2 _ I2 q2) fun ws s3 ⟨zs, H3, I3, rz, l1, l2, q3⟩ => ⟨I3.kIn, ?_⟩
  rw [hks]
  exact run_fnN (us := .ref a :: us) (vs := .ref a :: vs) F hr hb hx I3 (.cons rfl r) rz l1 l2 q3
end

/-! _law_told of K09: what born, dropped, column and by_number tell, or what they refuse -/
def sp_told9 (K : PySem.W.Frag) : Sp := fun vs H Q _ => ∃ (h : Addr) (cs : List Col) (chs : List Ch) (way : Int) (x y : V), vs = [.int way, .ref h, x, y] ∧ HistAt K H h cs chs ∧ HistOk cs chs ∧ okV x = true ∧ okV y = true ∧
  (((way = 0 ∨ way = 1) ∧ givB (atC cs chs).2 x = false ∧ okR x = true ∧ ∀ (p : Addr) (H' : Hp), Same H H' → H' p = some (.lst [.str "column", .str (reprV x)]) → Q (.ref p) H') ∨
  ((way = 2 ∨ way = 3) ∧ y ≠ .non ∧ isEd chs.length y = false ∧ okR y = true ∧ ∀ (p : Addr) (H' : Hp), Same H H' → H' p = some (.lst [.str "edition", .str (reprV y)]) → Q (.ref p) H') ∨
  (way = 2 ∧ (y = .non ∨ isEd chs.length y = true) ∧ (namedV (colsAt cs chs y) x = none → okR x = true ∧ ∀ (p : Addr) (H' : Hp), Same H H' → H' p = some (.lst [.str "name", .str (reprV x)]) → Q (.ref p) H') ∧
    ∀ a c, namedV (colsAt cs chs y) x = some c → ColA K H a c → Q (.ref a) H))
theorem ok_told9 (T : Tx K mg) : Callee P w K mg base CX0 6 "_law_told" ["_law_way", "_law_history_here", "_law_value_here", "_law_at"] [] (sp_told9 K) := by
  obtain ⟨fdB, FB, bB⟩ := ok_Hist_bornX (P := P) (w := w) (base := base) T
  obtain ⟨fdD, FD, bD⟩ := ok_Hist_droppedX (P := P) (w := w) (base := base) T
  obtain ⟨fdC, FC, gC, bC⟩ := ok_Hist_columnX (P := P) (w := w) (base := base) T
  obtain ⟨fdN, FN, gN, bN⟩ := ok_Hist_by_numberX (P := P) (w := w) (base := base) T
  have oC := oexB_ok (ex_BadColumn_x T)
  have oE := oexB_ok (ex_BadEdition_x T)
  have oU := oegB_ok (ex_UnknownName_g T)
  refine mkCallee (fd__law_told T) (mg__law_told T) sc__law_told (fun _ _ _ _ _ _ us hl => match us, hl with | [_, _, _, _], _ => rfl) (fun vs H Q E h => ?_) (fun cdv A outer s H vs Q E hr h => ?_)
  · obtain ⟨h, cs, chs, way, x, y, rfl, _⟩ := h
    rfl
  obtain ⟨h, cs, chs, way, x, y, rfl, hh, o, okx, oky, ways⟩ := h
  have nd := sc__law_told.nd
  have hr3 : Room 3 _ := hr.mono (by decide)
  refine ⟨_, pss_one (ps_try_asM (i := 4) (Wout := fun _ _ _ _ => False) (l := [(_, tsWR K rRepV "BadColumn" "index" "column" 4), (_, tsWR K rRepV "BadEdition" "edition" "edition" 4), (_, tsWR K rRepV "UnknownName" "name" "name" 4)]) rfl rfl nd rfl rfl takes0
      (fun W pn xe tk' _ => by exact (pss_cons (ps_if (pt_cmpR op_eq (pv 0) pe_int (nomark _)) (pss_one (ps_ret (pe_meth (E := WAll 5 W) (pv 1) (cl_History T) (me_History_born T) FB hr3 bB .nil (passAllN tk' rfl) (pa_cons (pv 2) pa_nil)))) pss_nil)
        (pss_cons (ps_if (pt_cmpR op_eq (pv 0) pe_int (nomark _)) (pss_one (ps_ret (pe_meth (E := WAll 5 W) (pv 1) (cl_History T) (me_History_dropped T) FD hr3 bD .nil (passAllN tk' rfl) (pa_cons (pv 2) pa_nil)))) pss_nil)
        (pss_cons (ps_if (pt_cmpR op_eq (pv 0) pe_int (nomark _)) (pss_one (ps_ret (pe_methN (E := WAll 5 W) (pv 1) (cl_History T) (me_History_column T) FC hr bC (passAllN tk' rfl) (pa_cons (pv 2) pa_nil) (pk_cons (pv 3) pk_nil)))) pss_nil)
        (pss_one (ps_ret (pe_methN (E := WAll 5 W) (pv 1) (cl_History T) (me_History_by_number T) FN hr bN (passAllN tk' rfl) (pa_cons (pv 2) pa_nil) (pk_cons (pv 3) pk_nil))))))))
      (.cons ⟨rfl, by decide, Or.inl (mg_BadColumn T)⟩ (fun a oe cls d pn hz hf => pss_one (ps_ret (by exact (pe_lst (pa_cons pe_str (pa_cons (pe_callB call_reprV (by rfl) (fr_repr T) (by decide +kernel) (pa_cons (pe_xf oC.xf oC.no hz hf (pv 4)) pa_nil)) pa_nil))))))
      (.cons ⟨rfl, by decide, Or.inl (mg_BadEdition T)⟩ (fun a oe cls d pn hz hf => pss_one (ps_ret (by exact (pe_lst (pa_cons pe_str (pa_cons (pe_callB call_reprV (by rfl) (fr_repr T) (by decide +kernel) (pa_cons (pe_xf oE.xf oE.no hz hf (pv 4)) pa_nil)) pa_nil))))))
      (.cons ⟨rfl, by decide, Or.inl (mg_UnknownName T)⟩ (fun a oe cls d pn hz hf => pss_one (ps_ret (by exact (pe_lst (pa_cons pe_str (pa_cons (pe_callB call_reprV (by rfl) (fr_repr T) (by decide +kernel) (pa_cons (pe_xf oU.xf oU.no hz hf (pv 4)) pa_nil)) pa_nil)))))) .nil)))), ?_⟩
  obtain ⟨dx, fs, hi, no1⟩ := histMx "born" (by decide +kernel) hh
  obtain ⟨_, _, hi2, no2⟩ := histMx "dropped" (by decide +kernel) hh
  obtain ⟨_, _, hi3, no3⟩ := histMx "column" (by decide +kernel) hh
  obtain ⟨_, _, hi4, no4⟩ := histMx "by_number" (by decide +kernel) hh
  obtain ⟨tx, htx⟩ := tys_ok (K := K) okx
  have few : chs.length ≤ 1000 := by have := o.few; omega
  -- what each clause does
  have onC : ∀ (d : Addr) (H' : Hp) (σ : L2.St), okR x = true → Same H H' → H' d = some (.xd [("index", x)]) → σ.length = 5 → (∀ (p : Addr) (H' : Hp), Same H H' → H' p = some (.lst [.str "column", .str (reprV x)]) → Q (.ref p) H') →
      wAsM K (fun _ _ _ _ => False) { nx := fun _ H' => Q .non H', rt := Q } 4 [(.ref (He.ga K "BadColumn"), tsWR K rRepV "BadColumn" "index" "column" 4), (.ref (He.ga K "BadEdition"), tsWR K rRepV "BadEdition" "edition" "edition" 4), (.ref (He.ga K "UnknownName"), tsWR K rRepV "UnknownName" "name" "name" 4)] (.ref (He.ga K "BadColumn")) (some d) σ H' := fun d H' σ hR s' hd hl k =>
    asM_hit oC.me fun a _ => tsWR_ok (by rw [hl]; decide) hd (fun Q q => ⟨x, rfl, hR, q⟩) fun p H2 s2 hp => k p H2 (s'.trans s2) hp
  have onE : ∀ (d : Addr) (H' : Hp) (σ : L2.St), okR y = true → Same H H' → H' d = some (.xd [("edition", y)]) → σ.length = 5 → (∀ (p : Addr) (H' : Hp), Same H H' → H' p = some (.lst [.str "edition", .str (reprV y)]) → Q (.ref p) H') →
      wAsM K (fun _ _ _ _ => False) { nx := fun _ H' => Q .non H', rt := Q } 4 [(.ref (He.ga K "BadColumn"), tsWR K rRepV "BadColumn" "index" "column" 4), (.ref (He.ga K "BadEdition"), tsWR K rRepV "BadEdition" "edition" "edition" 4), (.ref (He.ga K "UnknownName"), tsWR K rRepV "UnknownName" "name" "name" 4)] (.ref (He.ga K "BadEdition")) (some d) σ H' := fun d H' σ hR s' hd hl k =>
    asM_skip (exnB_ok (ex_BadEdition_not_BadColumn T)) (asM_hit oE.me fun a _ => tsWR_ok (by rw [hl]; decide) hd (fun Q q => ⟨y, rfl, hR, q⟩) fun p H2 s2 hp => k p H2 (s'.trans s2) hp)
  have onU : ∀ (d : Addr) (H' : Hp) (σ : L2.St), okR x = true → Same H H' → H' d = some (.xd [("name", x)]) → σ.length = 5 → (∀ (p : Addr) (H' : Hp), Same H H' → H' p = some (.lst [.str "name", .str (reprV x)]) → Q (.ref p) H') →
      wAsM K (fun _ _ _ _ => False) { nx := fun _ H' => Q .non H', rt := Q } 4 [(.ref (He.ga K "BadColumn"), tsWR K rRepV "BadColumn" "index" "column" 4), (.ref (He.ga K "BadEdition"), tsWR K rRepV "BadEdition" "edition" "edition" 4), (.ref (He.ga K "UnknownName"), tsWR K rRepV "UnknownName" "name" "name" 4)] (.ref (He.ga K "UnknownName")) (some d) σ H' := fun d H' σ hR s' hd hl k =>
    asM_skip (exnB_ok (ex_UnknownName_not_BadColumn T)) (asM_skip (exnB_ok (ex_UnknownName_not_BadEdition T)) (asM_hit oU.me fun a _ => tsWR_ok (by rw [hl]; decide) hd (fun Q q => ⟨x, rfl, hR, q⟩) fun p H2 s2 hp => k p H2 (s'.trans s2) hp))
  rcases ways with ⟨hw, hg, hR, k⟩ | ⟨hw, hn, he, hR, k⟩ | ⟨rfl, hy, kn, ks⟩
  · rcases hw with rfl | rfl
    · refine ⟨_, rfl, rfl, _, rfl, iteDT rfl ⟨_, rfl, h, dx, fs, rfl, hi, no1, _, rfl, h, cs, chs, x, tx, rfl, hh, o, htx _, hg, fun d H' s' hd σ hl => onC d H' σ hR s' hd hl k⟩⟩
    · refine ⟨_, rfl, rfl, _, rfl, iteD (by decide) (nxt ⟨_, rfl, rfl, _, rfl, iteDT rfl ⟨_, rfl, h, _, _, rfl, hi2, no2, _, rfl, h, cs, chs, x, tx, rfl, hh, o, htx _, hg, fun d H' s' hd σ hl => onC d H' σ hR s' hd hl k⟩⟩)⟩
  · rcases hw with rfl | rfl
    · refine ⟨_, rfl, rfl, _, rfl, iteD (by decide) (nxt ⟨_, rfl, rfl, _, rfl, iteD (by decide) (nxt ⟨_, rfl, rfl, _, rfl, iteDT rfl ⟨_, rfl, h, _, _, rfl, hi3, no3, _, rfl, _, rfl, rfl, rfl, h, cs, chs, x, y, rfl, hh, few, okx, oky, fun _ _ d H' s' hd σ hl => onE d H' σ hR s' hd hl k, fun q => ?_⟩⟩)⟩)⟩
      exact (absurd q (by rintro (q | q); exact hn q; rw [he] at q; cases q))
    · refine ⟨_, rfl, rfl, _, rfl, iteD (by decide) (nxt ⟨_, rfl, rfl, _, rfl, iteD (by decide) (nxt ⟨_, rfl, rfl, _, rfl, iteD (by decide) (nxt ⟨_, rfl, h, _, _, rfl, hi4, no4, _, rfl, _, rfl, rfl, rfl, h, cs, chs, x, y, rfl, hh, few, okx, oky, fun _ _ d H' s' hd σ hl => onE d H' σ hR s' hd hl k, fun q => ?_⟩)⟩)⟩)⟩
      exact (absurd q (by rintro (q | q); exact hn q; rw [he] at q; cases q))
  · refine ⟨_, rfl, rfl, _, rfl, iteD (by decide) (nxt ⟨_, rfl, rfl, _, rfl, iteD (by decide) (nxt ⟨_, rfl, rfl, _, rfl, iteDT rfl ⟨_, rfl, h, _, _, rfl, hi3, no3, _, rfl, _, rfl, rfl, rfl, h, cs, chs, x, y, rfl, hh, few, okx, oky, fun h1 h2 => ?_, fun _ => ⟨fun q d H' s' hd σ hl => onU d H' σ (kn q).1 s' hd hl (kn q).2, ks⟩⟩⟩)⟩)⟩
    rcases hy with q | q
    · exact absurd q h1
    · rw [h2] at q
      cases q
-- needs: _law_then
/-! a law's columns kept by a test: [col for col in cols if ..] -/
theorem LcAt.inj {K : PySem.W.Frag} {H : Hp} {a : Addr} {c c' : Col} (h : LcAt K H a c) (h' : LcAt K H a c') : c = c' := by
  unfold LcAt at h h'
  rw [h] at h'
  have e := HO.tup.inj (Option.some.inj h')
  obtain ⟨e1, e⟩ := List.cons.inj e
  obtain ⟨e2, e⟩ := List.cons.inj e
  obtain ⟨e3, e⟩ := List.cons.inj e
  obtain ⟨e4, _⟩ := List.cons.inj e
  obtain ⟨n, t, d, k⟩ := c
  obtain ⟨n', t', d', k'⟩ := c'
  have f1 := V.str.inj e1
  have f2 := V.int.inj e2
  have f4 := V.int.inj e4
  dsimp only at f1 f2 f4 e3
  subst f1 f2 f4 e3
  rfl
open Classical in
noncomputable def okF (K : PySem.W.Frag) (H : Hp) (p : Col → Bool) (x : V) : Bool := decide (∃ (a : Addr) (c : Col), x = .ref a ∧ LcAt K H a c ∧ p c = true)
open Classical in
theorem okF_eq {K : PySem.W.Frag} {H : Hp} {p : Col → Bool} {a : Addr} {c : Col} (h : LcAt K H a c) : okF K H p (.ref a) = p c := by
  unfold okF
  cases e : p c with
  | true => exact decide_eq_true ⟨a, c, rfl, h, e⟩
  | false =>
    refine decide_eq_false ?_
    rintro ⟨a', c', e', h', q⟩
    cases e'
    rw [h'.inj h, e] at q
    cases q
theorem tlc_LF {K : PySem.W.Frag} {σ : L2.St} {H : Hp} {tl te : TE} {tt : TT} {j : Nat} {vs : List Nat} {Q : VK} {as : List Addr} {cs : List Col} {e : Addr} (p : Col → Bool) (he : H e = some (.lst (as.map V.ref))) (hc : LCols K H as cs)
    (htl : ∀ R : VK, R (.ref e) H → tl σ H R) (hz : as.length ≤ 1000) (hw : ∀ x, wipe ((wipe σ vs).set j (some x)) vs = wipe σ vs)
    (ht : ∀ a c, c ∈ cs → ∀ H', Same H H' → LcAt K H' a c → ∀ R : Bool → Hp → Prop, R (p c) H' → tt ((wipe σ vs).set j (some (.ref a))) H' R)
    (hv : ∀ x H' (R : VK), R x H' → te ((wipe σ vs).set j (some x)) H' R)
    (k : ∀ (D : Addr) (as' : List Addr) (H' : Hp), H D = none → Same H H' → H' D = some (.lst (as'.map V.ref)) → LCols K H' as' (cs.filter p) → Q (.ref D) H') : tLc (iList K tl) (gName j) tt te vs σ H Q := by
  have at_ : ∀ x ∈ as.map V.ref, ∃ a c, x = .ref a ∧ c ∈ cs ∧ LcAt K H a c := fun x hx => by
    obtain ⟨i, hi⟩ := List.mem_iff_getElem?.mp hx
    rw [List.getElem?_map] at hi
    cases ha : as[i]? with
    | none =>
      rw [ha] at hi
      cases hi
    | some a =>
      rw [ha] at hi
      obtain ⟨c, h1, h2⟩ := hc.at_ ha
      exact ⟨a, c, (Option.some.inj hi).symm, List.mem_of_getElem? h1, h2⟩
  refine tlc_L (xs := as.map V.ref) (okF K H p) (fun x => x) (fun R h => htl _ (h e H (Same.refl _) (sqL_of he))) (by rw [List.length_map]; omega) hw (fun x hx H' s' R hR => ?_) (fun x hx _ H' s' R hR => hv _ _ _ (hR H' (Same.refl _))) (fun D H' nD s' hD => ?_)
  · obtain ⟨a, c, rfl, hm, hat⟩ := at_ x hx
    refine ht a c hm H' s' (hat.keep s') R ?_
    have := hR H' (Same.refl _)
    rw [okF_eq hat] at this
    exact this
  · refine k D (keepA p as cs) H' nD s' ?_ ((hc.filter p).keep s')
    rw [hD, keepL_map p (okF K H p) hc fun a c h _ => okF_eq h]
/-- a test that compares: the first side first -/
theorem tt_op {r : R2} {ta tb : TE} {σ : L2.St} {H : Hp} {R : Bool → Hp → Prop} (h : ta σ H fun x H1 => tb σ H1 fun y H2 => r x y H2 fun v H3 => ∃ b, v = .bl b ∧ R b H3) : tTest (tOp r ta tb) σ H R := h
/-- f(e): the argument first -/
theorem pl_c1 {sp : Sp} {E : XK} {te : TE} {σ : L2.St} {H : Hp} {Q : VK} (h : te σ H fun v H1 => sp [v] H1 Q E) : tCall sp [] E (tCons te tNil) σ H Q := h
theorem dec_int {i j : Int} : decide (V.int i = V.int j) = decide (i = j) := by
  rw [Bool.eq_iff_iff, decide_eq_true_iff, decide_eq_true_iff]
  exact ⟨V.int.inj, congrArg _⟩
theorem dec_str {i j : Str} : decide (V.str i = V.str j) = decide (i = j) := by
  rw [Bool.eq_iff_iff, decide_eq_true_iff, decide_eq_true_iff]
  exact ⟨V.str.inj, congrArg _⟩

/-! xs != [], xs == [], whatever the items are -/
section
variable {X : Cx}
def rNeE (K : PySem.W.Frag) : R2 := fun x y H Q => ∃ (a b : Addr) (xs : List V), x = .ref a ∧ y = .ref b ∧ SqL K H a xs ∧ SqL K H b [] ∧ Q (.bl (!xs.isEmpty)) H
theorem op_neE (hu : X.A.units + 64 < cLine) : OpR X (compareOp .NotEq) (rNeE X.K) := by
  intro pins s σ H x y v u Q I rx ry h
  obtain ⟨a, b, xs, rfl, rfl, ha, hb, q⟩ := h
  cases rx
  cases ry
  obtain ⟨its, r, pl, hz⟩ := I.list ha
  obtain ⟨jts, r2, pl2, hz2⟩ := I.list hb
  cases r2
  cases xs with
  | nil =>
    cases r
    exact op_neD hu pins s σ H (.ref a) (.ref b) (.ref a) (.ref b) Q I rfl rfl ⟨.list [], .list [], .lst ha .nil, .lst hb .nil, rfl, rfl, q⟩
  | cons z zs =>
    cases r with
    | cons rz rzs =>
      show wpAny (model X.prog X.w) X.A (richCompare .NotEq (.ref a) (.ref b)) (EP X pins σ Q) X.xe s
      exact SeqAt.RcNeAt.lists_lengths pl.isList pl2.isList (by simp) (by omega) _ _ _ _ ⟨.bl true, H, I, rfl, q⟩
end

/-! what laws say of their own histories and rows -/
theorem Sheets.keepP {K : PySem.W.Frag} {H H' : Hp} {p : Addr} {y0 y1 : Int} (hp : H p = some (.lst [.int y0, .int y1])) (bt : But p H H') : ∀ {es : List Addr} {eds : List (List Col)}, Sheets K H es eds → Sheets K H' es eds
  | _, _, .nil => .nil
  | _, _, .cons as h c t => .cons as (bt _ _ (fun e => by rw [e, hp] at h; exact refs_no (HO.lst.inj (Option.some.inj h)).symm) h) (c.keepNL (KeepNL.ofBut hp bt)) (t.keepP hp bt)
theorem LhAt.but {K : PySem.W.Frag} {H H' : Hp} {h p : Addr} {cs : List Col} {chs : List Ch} {y0 y1 : Int} (q : LhAt K H h cs chs) (hp : H p = some (.lst [.int y0, .int y1])) (bt : But p H H') : LhAt K H' h cs chs := by
  obtain ⟨sh, ch, es, ts, h1, h2, h3, h4, h5⟩ := q
  have kn := KeepNL.ofBut hp bt
  refine ⟨sh, ch, es, ts, kn _ _ (fun _ z => by cases z) h1, bt _ _ (fun z => ?_) h2, h3.keepP hp bt, bt _ _ (fun z => ?_) h4, h5.keepNL kn⟩
  · rw [z, hp] at h2
    exact refs_no (HO.lst.inj (Option.some.inj h2)).symm
  · rw [z, hp] at h4
    exact refs_no (HO.lst.inj (Option.some.inj h4)).symm
theorem lat_get {H : Hp} {h : Addr} {sh ch : Addr} {n : Int} (q : H h = some (.dK (lhDict sh ch n))) : DGet H h (.str "sheets") (some (.ref sh)) ∧ DGet H h (.str "changes") (some (.ref ch)) ∧ DGet H h (.str "given") (some (.int n)) := by
  obtain ⟨v1, v2, v3⟩ := lh_vals sh ch n
  refine ⟨?_, ?_, ?_⟩
  · rw [← v1]; exact DGet.k (k := Sum.inr "sheets") q
  · rw [← v2]; exact DGet.k (k := Sum.inr "changes") q
  · rw [← v3]; exact DGet.k (k := Sum.inr "given") q

/-! a law's history, its lists put anew -/
theorem lh_put1 {sh sh' ch : Addr} {n : Int} : putK (lhDict sh ch n) (Sum.inr "sheets") (.ref sh') = lhDict sh' ch n := by
  have h1 : ¬ ((Sum.inr "changes" : Key) = (Sum.inr "sheets" : Key)) := by decide +kernel
  have h2 : ¬ ((Sum.inr "given" : Key) = (Sum.inr "sheets" : Key)) := by decide +kernel
  simp [lhDict, putK, h1, h2]
theorem lh_put2 {sh ch ch' : Addr} {n : Int} : putK (lhDict sh ch n) (Sum.inr "changes") (.ref ch') = lhDict sh ch' n := by
  have h1 : ¬ ((Sum.inr "sheets" : Key) = (Sum.inr "changes" : Key)) := by decide +kernel
  have h2 : ¬ ((Sum.inr "given" : Key) = (Sum.inr "changes" : Key)) := by decide +kernel
  simp [lhDict, putK, h1, h2]
theorem cut_one {x : V} {xs : List V} : cutV (x :: xs) none (some 1) = [x] := by
  unfold cutV
  have e1 : HT.sIx (x :: xs).length 0 none = 0 := rfl
  have e2 : HT.sIx (x :: xs).length (x :: xs).length (some 1) = 1 := by
    show HT.sIx (x :: xs).length (x :: xs).length (some ((1 : Nat) : Int)) = 1
    rw [HT.sIx_nat, List.length_cons]
    omega
  rw [e1, e2]
  rfl
/-- a sheet of the law's history, as it is looked up -/
theorem LhAt.sheet {K : PySem.W.Frag} {H : Hp} {h : Addr} {cs : List Col} {chs : List Ch} (q : LhAt K H h cs chs) {m : Nat} (hm : m ≤ chs.length) : ∃ (sh : Addr) (es : List Addr) (e : Addr) (as : List Addr), DGet H h (.str "sheets") (some (.ref sh)) ∧ H sh = some (.lst (es.map V.ref)) ∧ es.length = chs.length + 1 ∧
    es[m]? = some e ∧ H e = some (.lst (as.map V.ref)) ∧ LCols K H as (atC cs (chs.take m)).1 := by
  obtain ⟨sh, ch, es, ts, q1, q2, q3, q4, q5⟩ := q
  have hl : es.length = chs.length + 1 := by rw [q3.len, edsTo_len]
  have hem : es[m]? = some (es[m]'(by omega)) := List.getElem?_eq_getElem (by omega)
  obtain ⟨ci, as, hci, hea, hec⟩ := q3.at_ hem
  rw [edsTo_get (by omega)] at hci
  obtain rfl := Option.some.inj hci
  exact ⟨sh, es, _, as, (lat_get q1).1, q2, hl, hem, hea, hec⟩

/-! _law_alive: the editions that have a column with a number -/
def aliveL (cs : List Col) (chs : List Ch) (n : Int) : List V := ((List.range (chs.length + 1)).filter fun i => (colE cs chs i n).isSome).map fun i => V.int (i : Nat)
def sp_alive (K : PySem.W.Frag) : Sp := fun vs H Q _ => ∃ (h : Addr) (cs : List Col) (chs : List Ch) (n : Int), vs = [.ref h, .int n] ∧ LhAt K H h cs chs ∧ HistOk cs chs ∧
  ∀ (l : Addr) (H' : Hp), H l = none → Same H H' → H' l = some (.lst (aliveL cs chs n)) → Q (.ref l) H'
theorem ok_alive (T : Tx K mg) : Callee P w K mg base CX0 1 "_law_alive" ["_law_h", "_law_seat"] [] (sp_alive K) := by
  have gl : mg "len" = none := fr_len T
  refine mkCallee (fd__law_alive T) (mg__law_alive T) sc__law_alive (fun _ _ _ _ _ _ us hl => match us, hl with | [_, _], _ => rfl) (fun vs H Q E h => ?_) (fun cdv A outer s H vs Q E hr h => ?_)
  · obtain ⟨h, cs, chs, n, rfl, _⟩ := h
    rfl
  obtain ⟨h, cs, chs, n, rfl, hL, o, k⟩ := h
  have nd := sc__law_alive.nd
  have hu := hu_of hr
  have few := o.few
  obtain ⟨sh, ch, es, ts, q1, q2, q3, q4, q5⟩ := id hL
  have hes : es.length = chs.length + 1 := by rw [q3.len, edsTo_len]
  refine ⟨_, pss_one (ps_ret (pe_lc (own := [("_law_at", 2)]) (g := gName 2) (tt := tTest (tOp (rNeE K) (tLc (iList K (tOp (rIxL K) (tDGet (tVar 0) (tC (.str "sheets"))) (tVar 2))) (gName 3) (tTest (tOp rEq (tOp (rIxT K) (tVar 3) (tC (.int 3))) (tVar 1))) (tVar 3) [3]) (tLst tNil))) (te := tVar 2) rfl nd (pi_range1 (by rfl) (fr_range T) (pa_cons (pe_callB call_len (by rfl) gl PySem.boot_len (pa_cons (pe_dget hu (pv 0) pe_str (fun _ _ => rfl)) pa_nil)) pa_nil)) (blkOk_by (N := ["_law_h", "_law_seat", "_law_at", "_law_col"]) (sc := defScope s__law_alive) (by decide +kernel))
      (fun _ _ _ _ _ => pg_name (i := 2) nd rfl (Or.inl rfl))
      (fun _ _ _ _ _ => pts_one (pt_cmpR (op_neE hr.units) (pe_lc (own := [("_law_col", 3)]) (g := gName 3) (tt := tTest (tOp rEq (tOp (rIxT K) (tVar 3) (tC (.int 3))) (tVar 1))) (te := tVar 3) rfl nd (pi_list (pe_ix ix_list (pe_dget hu (pv 0) pe_str (fun _ _ => rfl)) (pv 2) (fun _ _ => rfl))) (by exact (blkOk_by (N := ["_law_h", "_law_seat", "_law_at", "_law_col"]) (sc := { kind := .function, names := [(".0", .local), ("_law_at", .local), ("_law_h", .cell), ("_law_seat", .cell)], isGenerator := false, isCoroutine := false }) (scope := { kind := .function, names := [(".0", .local), ("_law_col", .local), ("_law_seat", .free)], isGenerator := false, isCoroutine := false }) (own := [("_law_col", 3)]) (by decide +kernel))) (fun _ _ _ _ _ => pg_name (i := 3) nd rfl (Or.inl rfl)) (fun _ _ _ _ _ => pts_one (pt_cmpR op_eq (pe_ix ix_tup (pv 3) pe_int (fun _ _ => rfl)) (pv 1) (nomark _))) (fun _ _ _ _ _ => pv 3)) (pe_lst pa_nil) (nomark _)))
      (fun _ _ _ _ _ => pv 2))), ?_⟩
  show tLc _ _ _ _ _ _ _ _
  have few2 : ((chs.length + 1 : Nat) : Int) ≤ 100000 := by omega
  refine tlc_R (fun x => match x with | .int i => (colE cs chs i.toNat n).isSome | _ => false) (fun x => x) ((chs.length + 1 : Nat) : Int) (fun R hR => ?_) few2 (fun _ => rfl) (fun m hm H' s' R hR => ?_) (fun m hm _ H' s' R hR => ⟨_, rfl, hR H' (Same.refl _)⟩) (by omega) (fun D H' nD s' hD => k D H' nD s' ?_)
  · refine ⟨_, rfl, h, .ref sh, rfl, (lat_get q1).1, _, es.length, rfl, .inl ⟨_, sqL_of q2, by rw [List.length_map]⟩, ?_⟩
    rw [hes]
    exact hR H (Same.refl _)
  · obtain ⟨sh2, es2, e, as, w1, w2, w3, w4, w5, w6⟩ := (hL.keep s').sheet (m := m) (by omega)
    have asl : as.length ≤ 6 := by
      rw [w6.len]
      exact (o.f.good o.g m (by omega)).six
    refine tt_op ?_
    refine tlc_LF (K := K) (isK n) w5 w6 (fun R h => ⟨_, rfl, _, _, rfl, w1, _, rfl, sh2, _, _, .ref e, rfl, rfl, sqL_of w2, lref_at w4, h⟩) (by omega) (fun _ => rfl) (fun a c hc H2 s2 hat R hR => ⟨_, rfl, a, _, 3, _, rfl, rfl, sqT_of hat, rfl, _, rfl, rfl, _, rfl, ?_⟩) (fun x H' R h => ⟨_, rfl, h⟩) (fun D as' H2 nD s2 hD hc' => ⟨by decide, fun E nE => ⟨D, E, _, rfl, rfl, sqL_of (same_new nE _ _ hD), sqL_of upd_same, _, rfl, ?_⟩⟩)
    · rw [show decide (V.int c.num = V.int n) = isK n c from by
        unfold isK
        rw [Bool.eq_iff_iff, decide_eq_true_iff, decide_eq_true_iff]
        exact ⟨V.int.inj, congrArg _⟩]
      exact hR
    · have e1 : (!(as'.map V.ref).isEmpty) = (colE cs chs ((m : Nat) : Int).toNat n).isSome := by
        have e2 : ((m : Nat) : Int).toNat = m := rfl
        rw [e2]
        show _ = ((atC cs (chs.take m)).1.find? (isK n)).isSome
        rw [← List.head?_filter]
        have e3 := hc'.len
        cases hf : (atC cs (chs.take m)).1.filter (isK n) with
        | nil =>
          rw [hf] at e3
          rw [List.length_eq_zero_iff.mp e3]
          rfl
        | cons c r =>
          rw [hf] at e3
          cases as' with
          | nil => cases e3
          | cons => rfl
      rw [e1]
      exact hR _ (s2.trans (same_new nE))
  · rw [hD]
    congr 2
    unfold aliveL
    rw [List.map_id', List.filter_map]
    rfl
/-! x != y of instances with an own __eq__ and no own __ne__ -/
theorem kfo_specialB {prog : Program} {w : World} {A : Around} {E : Value → Shared → Prop} {s : Shared} {K : PySem.W.Frag} {x C : Addr} {ox : Obj} {od : Option Obj} {name : Str} {id : String} {args : List Value} {Q : Option Value → Shared → Prop} (X : K.In s.heap) (I : PySem.W.InstAt s.heap x ox C od) (hs : PySem.W.findIn K (.ref C) name = some (some (.builtin id)))
    (hb : ∀ self, bindSpecial (.builtin id) self = pure (.builtin id, [self])) (h : wpAny (model prog w) A (call (.builtin id) (.ref x :: args)) (fun v => Q (some v)) E s) : wpAny (model prog w) A (callSpecialIfBound? (.ref x) name args) Q E s := by
  simp only [callSpecialIfBound?, bindSpecialIfBound?]
  refine wpAny_holding (wpAny_bind (wpAny_bind (wpAny_bind (I.type.here ((PySem.W.looks_findIn X hs).here ?_)))))
  refine wpAny_bind (wpAny_askSetting (wpAny_ite ?_))
  have fin : wpAny (model prog w) A (call (.builtin id) ([.ref x] ++ args) >>= fun v => pure (some v)) Q E s := wpAny_bind (wpAny_mono h (fun v s' h' => wpAny_pure h') fun _ _ h' => h')
  split
  · exact wpAny_bind ((PySem.W.Looks.of_pure (hb _)).here (wpAny_pure (by exact fin)))
  · exact wpAny_tryCatch (wpAny_bind ((PySem.W.Looks.of_pure (hb _)).here (wpAny_pure (by exact fin))))
section
variable {X : Cx} {CX : CXT} {k : Nat} {f C : Addr} {fd : FuncData} {ps : List Str} {sp : Sp} {E : XK}
def rNeOwn (C : Addr) (sp : Sp) (E : XK) : R2 := fun x y H Q => ∃ a dx fs b dy gs, x = .ref a ∧ y = .ref b ∧ H a = some (.ins C dx fs) ∧ H b = some (.ins C dy gs) ∧ sp [x, y] H (fun z H' => ∃ c, z = .bl c ∧ Q (.bl (!c)) H') E
theorem op_neOwn (F : FnOk X.prog X.w X.K X.mg X.base CX k f fd ps sp) (hm : Meth X.K C "__eq__" f) (nc : NeC X.K C) (hr : Room (k + 1) X.A) (hb : Binds X.K fd ps []) (hx : Passes CX X E) : OpR X (compareOp .NotEq) (rNeOwn C sp E) := by
  intro pins s σ H x y v u Q I rx ry h
  obtain ⟨a, dx, fs, b, dy, gs, rfl, rfl, ha, hb', q⟩ := h
  cases (show v = Value.ref a from rx)
  cases (show u = Value.ref b from ry)
  obtain ⟨mA, J, _⟩ := ins_get I.hok ha
  obtain ⟨od, J, _⟩ := J.look
  obtain ⟨mB, J', _⟩ := ins_get I.hok hb'
  obtain ⟨od', J', _⟩ := J'.look
  obtain ⟨m, hF⟩ := I.fr
  show wpAny (model X.prog X.w) X.A (richCompare .NotEq (.ref a) (.ref b)) (EP X pins σ Q) X.xe s
  have run : wpAny (model X.prog X.w) X.A.in1 (call (.ref f) [.ref a, .ref b]) (fun v s' => ∃ c, v = .bool c ∧ EP X pins σ Q (.bool (!c)) s') X.xe s := by
    refine wpAny_mono (runA (us := [.ref a, .ref b]) (vs := [.ref a, .ref b]) F hr.in1 I.env0.in1 hb hx I (.cons rfl (.cons rfl .nil)) q) (fun r s' z => ?_) fun _ _ e => e
    obtain ⟨z', H', I', rz, c, ec, qz⟩ := z
    subst ec
    cases (show r = Value.bool c from rz)
    exact ⟨c, rfl, .bl (!c), H', I', rfl, qz⟩
  have one : wpAny (model X.prog X.w) X.A (tryCompare (.ref a) "__ne__" (.ref b)) (fun r s' => ∃ v, r = some v ∧ EP X pins σ Q v s') X.xe s := by
    unfold tryCompare
    refine wpAny_bind (kfo_specialB I.kIn J nc.at_ PySem.F.cmp_object.ne.bind (wpAny_call (codeAny_call_builtin PySem.F.cmp_object.ne.plain PySem.F.cmpEntry_ne (PySem.W.check_slot PySem.F.cmpKind_ne PySem.F.cmpSplit_ne (J.type.andThen (PySem.W.looks_mroIn I.kIn nc.ob)) (PySem.F.cmpArgs_ne _ _) ?_))))
    unfold Builtin.«object.__ne__»
    refine wpAny_bind (m := slotArgs "__ne__" 1 _) (wpAny_pure ?_)
    refine wpAny_bind (m := cRoomFor _ _) (wpAny_cRoomFor hr.in1.units0 ?_)
    refine wpAny_bind (m := callSpecialIfBound? (.ref a) (Str.ofString "__eq__") [.ref b]) (PySem.W.ifBound_K I.kIn J hm.at_ hm.fn (wpAny_mono run (fun r s' hr' => ?_) fun _ _ e => e))
    obtain ⟨c, rfl, hc⟩ := hr'
    refine wpAny_bind (m := truthy (.bool c)) (wpAny_truthy_bool ?_)
    refine wpAny_pure ?_
    exact wpAny_pure ⟨_, rfl, hc⟩
  unfold richCompare
  simp only [oneThing_ref]
  refine wpAny_holding (wpAny_bind (wpAny_cRoomFor hr.units0 ?_))
  rw [cmpInfo_NotEq]
  dsimp only
  refine wpAny_bind (J.type.here (wpAny_bind (J'.type.here ?_)))
  rw [show (Value.ref C != Value.ref C) = false from by simp]
  simp only [Bool.false_eq_true, if_false]
  refine wpAny_bind (wpAny_pure ?_)
  simp only [Bool.false_eq_true, if_false]
  refine wpAny_bind (wpAny_mono one (fun r s' z => ?_) fun _ _ e => e)
  obtain ⟨v, rfl, hq⟩ := z
  exact wpAny_pure hq
end
theorem hr64 {k : Nat} {A : Around} (r : Room k A) : A.units + 64 < cLine := by
  have := r.un
  omega
/-- a test that compares, the last of its block: the first side first -/
theorem pl_ifop {σ : L2.St} {H : Hp} {D : Ends} {ta tb : TE} {r : R2} {t u : TS} (h : ta σ H fun x H1 => tb σ H1 fun y H2 => r x y H2 fun z H3 => ∃ b, z = .bl b ∧ (if b = true then t D σ H3 else u D σ H3)) : tIfS (tB (tOp r ta tb)) t u D σ H := h

/-! a comparison by either of two readings; two lists [word, text] that are the same -/
theorem op_or {X : Cx} {o : Value → Value → Sem Value} {r1 r2 : R2} (h1 : OpR X o r1) (h2 : OpR X o r2) : OpR X o (fun x y H Q => r1 x y H Q ∨ r2 x y H Q) := fun pins s σ H x y v u Q I rx ry h => by
  rcases h with h | h
  · exact h1 pins s σ H x y v u Q I rx ry h
  · exact h2 pins s σ H x y v u Q I rx ry h
theorem ne_two {K : PySem.W.Frag} {H : Hp} {p q : Addr} {w z : Str} {Q : VK} (hp : H p = some (.lst [.str w, .str z])) (hq : H q = some (.lst [.str w, .str z])) (ow : okV (.str w) = true) (oz : okV (.str z) = true) (k : Q (.bl false) H) : rNeD K (.ref p) (.ref q) H Q := by
  have sh : SeqAt.shaped (.list [.str w, .str z]) = true := by
    have ow : PyData.canLay0 (.str w) = true := ow
    have oz : PyData.canLay0 (.str z) = true := oz
    show ((PyData.canLay0 (.str w) && (PyData.canLay0 (.str z) && true)) && true) = true
    rw [ow, oz]
    rfl
  refine ⟨.list [.str w, .str z], .list [.str w, .str z], .lst (sqL_of hp) (.cons (.str w) (.cons (.str z) .nil)), .lst (sqL_of hq) (.cons (.str w) (.cons (.str z) .nil)), sh, sh, ?_⟩
  have e : PyData.eqv (.list [.str w, .str z]) (.list [.str w, .str z]) = true := by
    show ((w == w) && ((z == z) && true)) = true
    rw [beq_self_eq_true, beq_self_eq_true]
    rfl
  rw [e]
  exact k
theorem okR_int {i : Int} (h0 : 0 ≤ i) (h1 : i ≤ 1000) : okR (.int i) = true := by
  refine decide_eq_true ?_
  by_cases z : i.natAbs = 0
  · rw [z]
    decide
  · exact Nat.lt_of_lt_of_le ((Nat.log2_lt z).mpr (show i.natAbs < 2 ^ 10 by omega)) (by decide)

-- needs: +NEMP
/-- xs == [], whatever the items are -/
def rEqE (K : PySem.W.Frag) : R2 := fun x y H Q => ∃ (a b : Addr) (xs : List V), x = .ref a ∧ y = .ref b ∧ SqL K H a xs ∧ SqL K H b [] ∧ xs.all okV = true ∧ Q (.bl xs.isEmpty) H
theorem op_eqE {X : Cx} (hu : X.A.units + 64 < cLine) : OpR X (compareOp .Eq) (rEqE X.K) := by
  intro pins s σ H x y v u Q I rx ry h
  obtain ⟨a, b, xs, rfl, rfl, ha, hb, hok, q⟩ := h
  refine op_eqD hu pins s σ H (.ref a) (.ref b) v u Q I rx ry ⟨.list (xs.map dtV), .list [], .lst ha (dps_ok hok), .lst hb .nil, shaped_ok hok, rfl, ?_⟩
  have : PyData.eqv (.list (xs.map dtV)) (.list []) = xs.isEmpty := by
    cases xs with
    | nil => rfl
    | cons _ _ => rfl
  rw [this]
  exact q

/-! a block, then the rest: what holds between them is named -/
theorem s_seq {t U : TS} {D : Ends} {σ : L2.St} {H : Hp} (P : L2.St → Hp → Prop) (k : ∀ σ' H', P σ' H' → U D σ' H') (h : (∀ σ' H', P σ' H' → U D σ' H') → tSeq t U D σ H) : tSeq t U D σ H := h k
theorem pl_rop {σ : L2.St} {H : Hp} {D : Ends} {ta tb : TE} {r : V → V → Hp → VK → Prop} (h : ta σ H fun x H1 => tb σ H1 fun y H2 => r x y H2 D.rt) : tRet (tOp r ta tb) D σ H := h
theorem pl_ifb {σ : L2.St} {H : Hp} {D : Ends} {X : TE} {r : List V → Hp → VK → Prop} {t u U : TS} (h : X σ H fun v H1 => r [v] H1 fun z H2 => ∃ b, z = .bl b ∧ (if b = true then t { D with nx := U D } σ H2 else u { D with nx := U D } σ H2)) : tSeq (tIfS (tB (tCB r (tCons X tNil))) t u) U D σ H := h

/-! _law_one_right of K09: by_number and column at one edition -/
theorem odd5 {n : Int} : ∀ v ∈ ([.non, .int (-1), .bl true, .str "0", .int n] : List V), okV v = true ∧ okR v = true ∨ v = .int n := fun v hv => by
  rcases List.mem_cons.mp hv with rfl | hv
  · exact .inl ⟨rfl, rfl⟩
  rcases List.mem_cons.mp hv with rfl | hv
  · exact .inl ⟨rfl, by decide +kernel⟩
  rcases List.mem_cons.mp hv with rfl | hv
  · exact .inl ⟨rfl, rfl⟩
  rcases List.mem_cons.mp hv with rfl | hv
  · exact .inl ⟨by decide +kernel, by decide +kernel⟩
  rcases List.mem_cons.mp hv with rfl | hv
  · exact .inr rfl
  · cases hv
def sp_one9 (K : PySem.W.Frag) : Sp := fun vs H Q _ => ∃ (h h2 : Addr) (cs : List Col) (chs : List Ch) (m : Nat), vs = [.ref h, .ref h2, .int (m : Nat)] ∧ LhAt K H h cs chs ∧ HistAt K H h2 cs chs ∧ HistOk cs chs ∧ m ≤ chs.length ∧ ∀ H', Same H H' → Q (.bl true) H'
theorem ok_one9 (T : Tx K mg) : Callee P w K mg base CX0 7 "_law_one_right" ["_law_h", "_law_history_here", "_law_at"] [] (sp_one9 K) := by
  have Ct := ok_told9 (P := P) (w := w) (base := base) T
  have Cc := ok_lcols (P := P) (w := w) (base := base) T
  obtain ⟨fdE, FE, bE⟩ := ok_Col_eq (P := P) (w := w) (base := base) T
  obtain ⟨fdN, FN, ⟨gN, bN⟩, _⟩ := ok_Hist_by_number (P := P) (w := w) (base := base) T
  obtain ⟨fdX, FX0, ⟨gX, bX⟩⟩ := ok_Hist_by_numberX (P := P) (w := w) (base := base) T
  have FX := FnOk.calm FX0 (sp0 := fun vs H Q _ => sp_Hist_by_numberX K vs H Q fun _ _ _ => False) fun vs H Q E h => h
  refine mkCallee (fd__law_one_right T) (mg__law_one_right T) sc__law_one_right (fun _ _ _ _ _ _ us hl => match us, hl with | [_, _, _], _ => rfl) (fun vs H Q E h => ?_) (fun cdv A outer s H vs Q E hr h => ?_)
  · obtain ⟨h, h2, cs, chs, m, rfl, _⟩ := h
    rfl
  obtain ⟨h, h2, cs, chs, m, rfl, hL, hH, o, hm, k⟩ := h
  have nd := sc__law_one_right.nd
  have hu := hu_of hr
  have hr2 : Room 2 _ := hr.mono (by decide)
  have hr5 : Room 5 _ := hr.mono (by decide)
  have few := o.few
  refine ⟨_, (pss_cons (ps_for PassesOwn.never rfl (pi_range1 (by rfl) (fr_range T) (pa_cons (pe_dget hu (pv 0) pe_str (fun _ _ => rfl)) pa_nil)) (pg_name (i := 3) nd rfl (Or.inr rfl))
      (pss_cons (ps_set (i := 4) nd rfl (Or.inl rfl) (pcall Cc hr (pa_cons (pe_lc (own := [("_law_col", 7)]) (g := gName 7) (tt := tTest (tOp rEq (tOp (rIxT K) (tVar 7) (tC (.int 3))) (tVar 3))) (te := tVar 7) rfl nd (pi_list (pe_ix ix_list (pe_dget hu (pv 0) pe_str (fun _ _ => rfl)) (pv 2) (fun _ _ => rfl))) (blkOk_by (N := ["_law_h", "_law_history_here", "_law_at", "_law_seat", "_law_cols_here", "_law_name", "_law_odd", "_law_col"]) (sc := defScope s__law_one_right) (by decide +kernel)) (fun _ _ _ _ _ => pg_name (i := 7) nd rfl (Or.inl rfl)) (fun _ _ _ _ _ => pts_one (pt_cmpR op_eq (pe_ix ix_tup (pv 7) pe_int (fun _ _ => rfl)) (pv 3) (nomark _))) (fun _ _ _ _ _ => pv 7)) pa_nil)))
      (pss_one (ps_if (pt_cmpR (op_or (op_neOwn FE (me_Column___eq__ T) (neC_of (ex_Column_ne T)) hr2 bE pass0) op_ne) (pe_methN (pv 1) (cl_History T) (me_History_by_number T) FN hr5 bN pass0 (pa_cons (pv 3) pa_nil) (pk_cons (pv 2) pk_nil)) (pe_ifExp (pt_cmpR (op_neE hr.units) (pv 4) (pe_lst pa_nil) (nomark _)) (pe_ix ix_list (pv 4) pe_int (fun _ _ => rfl)) pe_non) (nomark _)) (pss_one (ps_ret pe_bl)) pss_nil))))
    (pss_cons (ps_for PassesOwn.never rfl (pi_list (pe_lst (pa_cons pe_str (pa_cons pe_str (pa_cons pe_str (pa_cons pe_str pa_nil)))))) (pg_name (i := 5) nd rfl (Or.inr rfl))
      (pss_cons (ps_set (i := 4) nd rfl (Or.inl rfl) (pcall Cc hr (pa_cons (pe_lc (own := [("_law_col", 7)]) (g := gName 7) (tt := tTest (tOp rEq (tOp (rIxT K) (tVar 7) (tC (.int 0))) (tVar 5))) (te := tVar 7) rfl nd (pi_list (pe_ix ix_list (pe_dget hu (pv 0) pe_str (fun _ _ => rfl)) (pv 2) (fun _ _ => rfl))) (blkOk_by (N := ["_law_h", "_law_history_here", "_law_at", "_law_seat", "_law_cols_here", "_law_name", "_law_odd", "_law_col"]) (sc := defScope s__law_one_right) (by decide +kernel)) (fun _ _ _ _ _ => pg_name (i := 7) nd rfl (Or.inl rfl)) (fun _ _ _ _ _ => pts_one (pt_cmpR op_eq (pe_ix ix_tup (pv 7) pe_int (fun _ _ => rfl)) (pv 5) (nomark _))) (fun _ _ _ _ _ => pv 7)) pa_nil)))
      (pss_one (ps_if (pt_cmpR (op_or (op_neOwn FE (me_Column___eq__ T) (neC_of (ex_Column_ne T)) hr2 bE pass0) (op_neD (hr64 hr))) (pcall Ct hr (pa_cons pe_int (pa_cons (pv 1) (pa_cons (pv 5) (pa_cons (pv 2) pa_nil))))) (pe_ifExp (pt_cmpR (op_neE hr.units) (pv 4) (pe_lst pa_nil) (nomark _)) (pe_ix ix_list (pv 4) pe_int (fun _ _ => rfl)) (pe_lst (pa_cons pe_str (pa_cons (pe_callB call_reprV (by rfl) (fr_repr T) (by decide +kernel) (pa_cons (pv 5) pa_nil)) pa_nil)))) (nomark _)) (pss_one (ps_ret pe_bl)) pss_nil))))
    (pss_one (ps_ret (pe_cmpR (op_eqE (hr64 hr)) (pe_lc (own := [("_law_odd", 6)]) (g := gName 6) (tt := tTest (tOp (fun x y H Q => y = .non ∧ Q (.bl (!decide (x = .non))) H) (tMethN (He.ga K "History") "by_number" 2 (["edition"] : List Str).length (fun vs H Q _ => sp_Hist_by_numberX K vs H Q fun _ _ _ => False) (fun vs zs => vs ++ zs) E0 (tVar 1) (tCons (tVar 6) tNil) (tCons (tVar 2) tNil)) (tC .non))) (te := tVar 6) rfl nd (pi_list (pe_lst (pa_cons pe_non (pa_cons (pe_un un_neg pe_int) (pa_cons pe_bl (pa_cons pe_str (pa_cons (pe_dget hu (pv 0) pe_str (fun _ _ => rfl)) pa_nil))))))) (blkOk_by (N := ["_law_h", "_law_history_here", "_law_at", "_law_seat", "_law_cols_here", "_law_name", "_law_odd", "_law_col"]) (sc := defScope s__law_one_right) (by decide +kernel))
        (fun _ _ _ _ _ => pg_name (i := 6) nd rfl (Or.inl rfl)) (fun _ _ _ _ _ => pts_one (pt_cmpR op_notN (pe_methN (pv 1) (cl_History T) (me_History_by_number T) FX hr5 bX pass0 (pa_cons (pv 6) pa_nil) (pk_cons (pv 2) pk_nil)) pe_non (nomark _))) (fun _ _ _ _ _ => pv 6)) (pe_lst pa_nil) (nomark _)))))), ?_⟩
  obtain ⟨sh, ch, es, ts, q1, q2, q3, q4, q5⟩ := id hL
  have gd := o.f.good o.g m hm
  have hg0 : 0 ≤ (atC cs chs).2 ∧ (atC cs chs).2 ≤ 60 := by
    have e1 := (o.f.good o.g chs.length (Nat.le_refl _)).nn
    have e2 := atC_le (cs := cs) (chs := chs) chs.length (Nat.le_refl _)
    have h6 := o.g.six
    rw [List.take_length] at e1 e2
    omega
  have ise := isEd_nat' hm
  have ecol : colsAt cs chs (.int (m : Nat)) = (atC cs (chs.take m)).1 := rfl
  refine ⟨_, rfl, h, _, rfl, (lat_get q1).2.2, _, rfl, by omega, by omega, ?_⟩
  refine for_range (lo := 0) (n := (atC cs chs).2.toNat) (fun i σ H' => Same H H' ∧ ∃ x3 x4 x5 x6 x7 : Option V, σ = [some (.ref h), some (.ref h2), some (.int (m : Nat)), x3, x4, x5, x6, x7]) ⟨Same.refl _, _, _, _, _, _, rfl⟩ ?_ ?_
  · rintro i σ H0 hi ⟨sH, x3, x4, x5, x6, x7, rfl⟩
    obtain ⟨sh2, es2, e, as, w1, w2, w3, w4, w5, w6⟩ := (hL.keep sH).sheet (m := m) hm
    have asl : as.length ≤ 6 := by rw [w6.len]; exact gd.six
    generalize hkk : (0 : Int) + (i : Int) = kI
    refine q_asgX ?_
    refine pl_c1 ?_
    refine tlc_LF (K := K) (isK kI) w5 w6 (fun R h => ⟨_, rfl, _, _, rfl, w1, _, rfl, sh2, _, _, .ref e, rfl, rfl, sqL_of w2, lref_at w4, h⟩) (by omega) (fun _ => rfl) (fun a c hc H2 s2 hat R hR => ⟨_, rfl, a, _, 3, _, rfl, rfl, sqT_of hat, rfl, _, rfl, rfl, _, rfl, by rw [dec_int]; exact hR⟩) (fun x H' R h => ⟨_, rfl, h⟩) (fun D as1 H1 nD s1 hD hc1 => ?_)
    have hlen1 : as1.length ≤ 6 := by
      rw [hc1.len]
      exact Nat.le_trans (List.length_filter_le _ _) gd.six
    refine ⟨D, as1, _, rfl, hD, hc1, by omega, fun c hc => (gd.ok c (List.mem_filter.mp hc).1).1, fun l as2 H2 nl s2 hl hcs => ?_⟩
    have s12 := (sH.trans s1).trans s2
    have hH2 := hH.keep s12
    obtain ⟨dx, fs, hi2, no2⟩ := histMx "by_number" (by decide +kernel) hH2
    dsimp only
    refine ⟨_, rfl, h2, dx, fs, rfl, hi2, no2, _, rfl, _, rfl, rfl, rfl, h2, cs, chs, kI, .int (m : Nat), rfl, hH2, by omega, .inr ise, fun hno => ?_, fun a c hfi hat => ?_⟩
    · have e0 : as2 = [] := by
        rw [ecol] at hno
        have e3 := hcs.len
        have e4 := List.head?_filter (p := isK kI) (l := (atC cs (chs.take m)).1)
        rw [hno] at e4
        rw [List.head?_eq_none_iff.mp e4] at e3
        exact List.length_eq_zero_iff.mp e3
      subst e0
      dsimp only
      refine ⟨_, rfl, by decide, fun E nE => ⟨l, E, _, rfl, rfl, sqL_of (same_new nE _ _ hl), sqL_of upd_same, _, rfl, iteF ?_⟩⟩
      exact .inr ⟨rfl, _, rfl, iteF (nxt ⟨s12.trans (same_new nE), _, _, _, _, _, rfl⟩)⟩
    · have e4 := List.head?_filter (p := isK kI) (l := (atC cs (chs.take m)).1)
      rw [ecol] at hfi
      rw [hfi] at e4
      obtain ⟨r, er⟩ : ∃ r, (atC cs (chs.take m)).1.filter (isK kI) = c :: r := by
        cases hf : (atC cs (chs.take m)).1.filter (isK kI) with
        | nil =>
          rw [hf] at e4
          cases e4
        | cons c' r =>
          rw [hf] at e4
          exact ⟨r, by rw [Option.some.inj e4]⟩
      rw [er] at hcs
      cases hcs with
      | @cons b bs c' cs' hb hcs =>
        dsimp only
        have hcm := List.mem_of_find?_eq_some hfi
        have hv := (gd.ok c hcm).1
        obtain ⟨dx1, hat⟩ := id hat
        obtain ⟨dx2, hb⟩ := id hb
        refine ⟨_, rfl, by decide, fun E nE => ⟨l, E, _, rfl, rfl, sqL_of (same_new nE _ _ hl), sqL_of upd_same, _, rfl, iteT ?_⟩⟩
        have s3 := same_new (o := .lst []) nE
        refine ⟨_, rfl, l, _, 0, .ref b, rfl, rfl, sqL_of (s3 _ _ hl), ix_int (by decide) rfl, .inl ⟨a, dx1, _, b, dx2, _, rfl, rfl, s3 _ _ hat, s3 _ _ hb, a, b, c, c, rfl, ⟨dx1, s3 _ _ hat⟩, ⟨dx2, s3 _ _ hb⟩, in_val hv.df, in_val hv.df, ?_⟩⟩
        rw [colEq_self]
        exact ⟨_, rfl, _, rfl, iteF (nxt ⟨s12.trans s3, _, _, _, _, _, rfl⟩)⟩
  · rintro σ H0 ⟨sH, x3, x4, x5, x6, x7, rfl⟩
    refine ⟨by decide, fun L nL => ⟨L, rfl, ⟨_, sqL_of upd_same⟩, ?_⟩⟩
    have s0 := same_new (o := .lst [.str "a", .str "b", .str "cc", .str "zz"]) nL
    refine for_list (xs := [.str "a", .str "b", .str "cc", .str "zz"]) (fun i σ H' => Same H H' ∧ H' L = some (.lst [.str "a", .str "b", .str "cc", .str "zz"]) ∧ ∃ x3 x4 x5 x6 x7 : Option V, σ = [some (.ref h), some (.ref h2), some (.int (m : Nat)), x3, x4, x5, x6, x7]) ⟨sH.trans s0, upd_same, _, _, _, _, _, rfl⟩ (fun i σ H' _ q => sqL_of q.2.1) ?_ ?_
    · rintro i x σ H1 hx ⟨sH, hL1, x3, x4, x5, x6, x7, rfl⟩
      obtain ⟨z, rfl, okz, orz, oz2⟩ : ∃ z, x = .str z ∧ okV (.str z) = true ∧ okR (.str z) = true ∧ okV (.str (reprV (.str z))) = true := by
        rcases List.mem_cons.mp (List.mem_of_getElem? hx) with rfl | hv
        · exact ⟨_, rfl, by decide +kernel, by decide +kernel, by decide +kernel⟩
        rcases List.mem_cons.mp hv with rfl | hv
        · exact ⟨_, rfl, by decide +kernel, by decide +kernel, by decide +kernel⟩
        rcases List.mem_cons.mp hv with rfl | hv
        · exact ⟨_, rfl, by decide +kernel, by decide +kernel, by decide +kernel⟩
        rcases List.mem_cons.mp hv with rfl | hv
        · exact ⟨_, rfl, by decide +kernel, by decide +kernel, by decide +kernel⟩
        · cases hv
      obtain ⟨sh2, es2, e, as, w1, w2, w3, w4, w5, w6⟩ := (hL.keep sH).sheet (m := m) hm
      have asl : as.length ≤ 6 := by rw [w6.len]; exact gd.six
      refine q_asgX ?_
      refine pl_c1 ?_
      refine tlc_LF (K := K) (isN z) w5 w6 (fun R h => ⟨_, rfl, _, _, rfl, w1, _, rfl, sh2, _, _, .ref e, rfl, rfl, sqL_of w2, lref_at w4, h⟩) (by omega) (fun _ => rfl) (fun a c hc H2 s2 hat R hR => ⟨_, rfl, a, _, 0, _, rfl, rfl, sqT_of hat, rfl, _, rfl, rfl, _, rfl, by rw [dec_str]; exact hR⟩) (fun x H' R h => ⟨_, rfl, h⟩) (fun D as1 H1 nD s1 hD hc1 => ?_)
      have hlen1 : as1.length ≤ 6 := by
        rw [hc1.len]
        exact Nat.le_trans (List.length_filter_le _ _) gd.six
      refine ⟨D, as1, _, rfl, hD, hc1, by omega, fun c hc => (gd.ok c (List.mem_filter.mp hc).1).1, fun l as2 H2 nl s2 hl hcs => ?_⟩
      have s12 := (sH.trans s1).trans s2
      have hH2 := hH.keep s12
      have hL2 := (s1.trans s2) _ _ hL1
      dsimp only
      refine ⟨_, rfl, _, rfl, _, rfl, h2, cs, chs, 2, .str z, .int (m : Nat), rfl, hH2, o, okz, rfl, .inr (.inr ⟨rfl, .inr ise, fun hno => ⟨orz, fun p H3 s3 hp => ?_⟩, fun a c hfi hat => ?_⟩)⟩
      · have e0 : as2 = [] := by
          rw [ecol] at hno
          have hno : (atC cs (chs.take m)).1.find? (isN z) = none := hno
          have e3 := hcs.len
          have e4 := List.head?_filter (p := isN z) (l := (atC cs (chs.take m)).1)
          rw [hno] at e4
          rw [List.head?_eq_none_iff.mp e4] at e3
          exact List.length_eq_zero_iff.mp e3
        subst e0
        dsimp only
        refine ⟨_, rfl, by decide, fun E nE => ⟨l, E, _, rfl, rfl, sqL_of (same_new nE _ _ (s3 _ _ hl)), sqL_of upd_same, _, rfl, iteF ?_⟩⟩
        have s4 := same_new (o := .lst []) nE
        refine ⟨_, rfl, .str z, rfl, orz, by show 2 ≤ sizeLine; decide, fun F nF => ?_⟩
        have s5 := same_new (o := .lst [.str "name", .str (reprV (.str z))]) nF
        refine .inr (ne_two (w := "name") (z := reprV (.str z)) (s5 _ _ (s4 _ _ hp)) upd_same (by decide +kernel) oz2 ⟨_, rfl, iteF (nxt ⟨((s12.trans s3).trans s4).trans s5, s5 _ _ (s4 _ _ (s3 _ _ hL2)), _, _, _, _, _, rfl⟩)⟩)
      · have e4 := List.head?_filter (p := isN z) (l := (atC cs (chs.take m)).1)
        rw [ecol] at hfi
        have hfi : (atC cs (chs.take m)).1.find? (isN z) = some c := hfi
        rw [hfi] at e4
        obtain ⟨r, er⟩ : ∃ r, (atC cs (chs.take m)).1.filter (isN z) = c :: r := by
          cases hf : (atC cs (chs.take m)).1.filter (isN z) with
          | nil =>
            rw [hf] at e4
            cases e4
          | cons c' r =>
            rw [hf] at e4
            exact ⟨r, by rw [Option.some.inj e4]⟩
        rw [er] at hcs
        cases hcs with
        | @cons b bs c' cs' hb hcs =>
          dsimp only
          have hcm := List.mem_of_find?_eq_some hfi
          have hv := (gd.ok c hcm).1
          obtain ⟨dx1, hat⟩ := id hat
          obtain ⟨dx2, hb⟩ := id hb
          refine ⟨_, rfl, by decide, fun E nE => ⟨l, E, _, rfl, rfl, sqL_of (same_new nE _ _ hl), sqL_of upd_same, _, rfl, iteT ?_⟩⟩
          have s3 := same_new (o := .lst []) nE
          refine ⟨_, rfl, l, _, 0, .ref b, rfl, rfl, sqL_of (s3 _ _ hl), ix_int (by decide) rfl, .inl ⟨a, dx1, _, b, dx2, _, rfl, rfl, s3 _ _ hat, s3 _ _ hb, a, b, c, c, rfl, ⟨dx1, s3 _ _ hat⟩, ⟨dx2, s3 _ _ hb⟩, in_val hv.df, in_val hv.df, ?_⟩⟩
          rw [colEq_self]
          exact ⟨_, rfl, _, rfl, iteF (nxt ⟨s12.trans s3, s3 _ _ hL2, _, _, _, _, _, rfl⟩)⟩
    · rintro σ H1 ⟨sH, hL1, x3, x4, x5, x6, x7, rfl⟩
      have hH1 := hH.keep sH
      obtain ⟨dx, fs, hi2, no2⟩ := histMx "by_number" (by decide +kernel) hH1
      dsimp only
      refine pl_rop ?_
      have none_ : ∀ x ∈ ([.non, .int (-1), .bl true, .str "0", .int (atC cs chs).2] : List V), numbV (colsAt cs chs (.int (m : Nat))) x = none := fun x hx => by
        rw [ecol]
        have key : ∀ n : Int, n < 0 ∨ (atC cs chs).2 ≤ n → (atC cs (chs.take m)).1.find? (isK n) = none := fun n hn => by
          rw [List.find?_eq_none]
          intro c hc e
          have e : c.num = n := of_decide_eq_true e
          have h1 := (gd.ok c hc).1.nu
          have h2 := (gd.ok c hc).2
          have h3 : (atC cs (chs.take m)).2 ≤ (atC cs chs).2 := by
            have := numE_mono (cs := cs) (chs := chs) hm
            rw [numE_all] at this
            exact this
          omega
        rcases List.mem_cons.mp hx with rfl | hx
        · rfl
        rcases List.mem_cons.mp hx with rfl | hx
        · exact key _ (.inl (by decide))
        rcases List.mem_cons.mp hx with rfl | hx
        · rfl
        rcases List.mem_cons.mp hx with rfl | hx
        · rfl
        rcases List.mem_cons.mp hx with rfl | hx
        · exact key _ (.inr (Int.le_refl _))
        · cases hx
      have q1' := (lat_get (sH _ _ q1)).2.2
      refine tlc_L (xs := [.non, .int (-1), .bl true, .str "0", .int (atC cs chs).2]) (fun _ => false) (fun x => x) (fun R hR => ?_) (by show 5 ≤ 100000; decide) (fun _ => rfl) (fun x hx H2 s2 R hR => ?_) (fun x hx e => by cases e) (fun D H2 nD s2 hD => ?_)
      · exact ⟨_, rfl, _, rfl, h, _, rfl, q1', by show 5 ≤ sizeLine; decide, fun p np => hR p _ (same_new np) (sqL_of upd_same)⟩
      · have ok : okV x = true := by
          rcases odd5 x hx with h | rfl
          · exact h.1
          · rfl
        refine ⟨_, rfl, h2, dx, fs, rfl, s2 _ _ hi2, no2, _, rfl, _, rfl, rfl, rfl, h2, cs, chs, x, .int (m : Nat), rfl, hH1.keep s2, by omega, ok, rfl, (fun _ h2 => by rw [ise] at h2; cases h2), fun _ => ⟨fun _ => ⟨rfl, _, rfl, hR _ (Same.refl _)⟩, fun a c q => ?_⟩⟩
        rw [none_ x hx] at q
        cases q
      · refine ⟨by decide, fun E nE => ⟨D, E, _, rfl, rfl, sqL_of (same_new nE _ _ hD), sqL_of upd_same, rfl, ?_⟩⟩
        exact k _ ((sH.trans s2).trans (same_new nE))
-- needs: _law_alive +BORN +BORNN
/-! the editions that have a number: the first, the last -/
theorem last_range (p : Nat → Bool) : ∀ N : Nat, (∃ i, i < N ∧ p i = true) → ∃ e, e < N ∧ p e = true ∧ (∀ j, e < j → j < N → p j = false) ∧ ∃ l, (List.range N).filter p = l ++ [e]
  | 0, ⟨i, h, _⟩ => by omega
  | N + 1, ⟨i, h, hi⟩ => by
    cases hN : p N with
    | true => exact ⟨N, by omega, hN, fun j h1 h2 => by omega, (List.range N).filter p, by rw [List.range_succ, List.filter_append, List.filter_cons, if_pos hN]; rfl⟩
    | false =>
      obtain ⟨e, h1, h2, h3, l, h4⟩ := last_range p N ⟨i, (by
        rcases Nat.lt_or_ge i N with q | q
        · exact q
        · have : i = N := by omega
          rw [this, hN] at hi
          cases hi), hi⟩
      refine ⟨e, by omega, h2, fun j q1 q2 => ?_, l, ?_⟩
      · rcases Nat.lt_or_ge j N with q | q
        · exact h3 j q1 q
        · have : j = N := by omega
          rw [this, hN]
      · rw [List.range_succ, List.filter_append, List.filter_cons, if_neg (by rw [hN]; decide), h4]
        exact List.append_nil _
theorem first_range (p : Nat → Bool) {b : Nat} : ∀ N : Nat, b < N → p b = true → (∀ i, i < b → p i = false) → ∃ l, (List.range N).filter p = b :: l
  | 0, h, _, _ => by omega
  | N + 1, h, hb, hn => by
    rcases Nat.lt_or_ge b N with q | q
    · obtain ⟨l, e⟩ := first_range p N q hb hn
      rw [List.range_succ, List.filter_append, e]
      exact ⟨_, rfl⟩
    · have e : b = N := by omega
      subst e
      have : (List.range b).filter p = [] := List.filter_eq_nil_iff.mpr fun i hi => by rw [hn i (List.mem_range.mp hi)]; decide
      rw [List.range_succ, List.filter_append, this, List.filter_cons, if_pos hb]
      exact ⟨_, rfl⟩
theorem at_end {l : List V} {v : V} (h : l.length ≤ 1000) : atI (l ++ [v]) (-1) = some v := by
  unfold atI ixN
  rw [if_neg (by omega), if_pos (by rw [List.length_append]; have e1 : [v].length = 1 := rfl; omega), List.length_append]
  show (l ++ [v])[((-1 : Int) + ((l.length + 1 : Nat) : Int)).toNat]? = _
  rw [show ((-1 : Int) + ((l.length + 1 : Nat) : Int)).toNat = l.length by omega, List.getElem?_append_right (Nat.le_refl _), Nat.sub_self]
  rfl
section
variable {cs : List Col} {chs : List Ch} {n : Int}
theorem alive_first (o : HistOk cs chs) (h0 : 0 ≤ n) (h1 : n < (atC cs chs).2) : ∃ l, aliveL cs chs n = .int (bornN cs chs n : Nat) :: l := by
  obtain ⟨_, h3, h4⟩ := bornN_spec o h0 h1
  obtain ⟨c, hc⟩ := born_there o h0 h3 h4
  obtain ⟨l, e⟩ := first_range (fun i => (colE cs chs i n).isSome) (chs.length + 1) (b := bornN cs chs n) (by omega) (by show (colE cs chs (bornN cs chs n) n).isSome = true; rw [hc]; rfl) fun i hi => by
    cases hq : colE cs chs i n with
    | none => rfl
    | some c' =>
      obtain ⟨k1, k2⟩ := findK_mem hq
      have := ((o.f.good o.g i (by omega)).ok c' k1).2
      have h5 := h4.2 i hi
      have h6 : c'.num < numE cs chs i := this
      omega
  unfold aliveL
  rw [e]
  exact ⟨_, rfl⟩
/-- the last edition that has it, and what dropped tells -/
theorem alive_last (o : HistOk cs chs) (h0 : 0 ≤ n) (h1 : n < (atC cs chs).2) {v : V} (hv : DropIs cs chs n chs.length v) : ∃ e : Nat, atI (aliveL cs chs n) (-1) = some (.int (e : Nat)) ∧ e ≤ chs.length ∧ v = if e = chs.length then .non else .int ((e : Int) + 1) := by
  obtain ⟨_, h3, h4⟩ := bornN_spec o h0 h1
  obtain ⟨c, hc⟩ := born_there o h0 h3 h4
  obtain ⟨e, e1, e2, e3, l, e4⟩ := last_range (fun i => (colE cs chs i n).isSome) (chs.length + 1) ⟨bornN cs chs n, by omega, by show (colE cs chs (bornN cs chs n) n).isSome = true; rw [hc]; rfl⟩
  have e2 : (colE cs chs e n).isSome = true := e2
  obtain ⟨ce, hce⟩ := Option.isSome_iff_exists.mp e2
  have few := o.few
  refine ⟨e, ?_, by omega, ?_⟩
  · unfold aliveL
    rw [e4, List.map_append]
    refine at_end ?_
    rw [List.length_map]
    have : ((List.range (chs.length + 1)).filter fun i => (colE cs chs i n).isSome).length ≤ chs.length + 1 := by
      refine Nat.le_trans (List.length_filter_le _ _) ?_
      rw [List.length_range]
      exact Nat.le_refl _
    rw [e4, List.length_append] at this
    omega
  · have nu : n < numE cs chs e := by
      obtain ⟨k1, k2⟩ := findK_mem hce
      have := ((o.f.good o.g e (by omega)).ok ce k1).2
      have : ce.num < numE cs chs e := this
      omega
    rcases hv with ⟨rfl, h2⟩ | ⟨d, rfl, d1, d2, ⟨c', d3⟩, d4⟩
    · by_cases he : e = chs.length
      · rw [if_pos he]
      · exfalso
        rcases h2 e (by omega) with q | ⟨c', q⟩
        · exact q ⟨ce, hce⟩
        · have := e3 (e + 1) (by omega) (by omega)
          rw [show (colE cs chs (e + 1) n).isSome = true by rw [q]; rfl] at this
          cases this
    · have hde : e = d - 1 := by
        rcases Nat.lt_trichotomy e (d - 1) with q | q | q
        · have := e3 (d - 1) q (by omega)
          rw [show (colE cs chs (d - 1) n).isSome = true by rw [d3]; rfl] at this
          cases this
        · exact q
        · have nd : n < numE cs chs d := by
            obtain ⟨k1, k2⟩ := findK_mem d3
            have q1 := ((o.f.good o.g (d - 1) (by omega)).ok c' k1).2
            have q1 : c'.num < numE cs chs (d - 1) := q1
            have q2 := numE_mono (cs := cs) (chs := chs) (show d - 1 ≤ d by omega)
            omega
          have := gone_stays o d4 nd (e - d) (by omega)
          rw [show d + (e - d) = e by omega, hce] at this
          cases this
      rw [if_neg (by omega), hde]
      congr 1
      omega
end

/-! names are texts that can be compared -/
theorem letters_low : ∀ c ∈ letters.cps.toList, c < 0x110000 := by decide +kernel
theorem nm_ok {n : Str} (h : isNm (.str n) = true) : okV (.str n) = true := by
  have h : (decide (1 ≤ n.length) && (decide (n.length ≤ 8) && n.cps.toList.all fun c => decide (c ∈ letters.cps.toList))) = true := h
  rw [Bool.and_eq_true, Bool.and_eq_true, List.all_eq_true] at h
  show n.cps.all (fun c => decide (c < 0x110000)) = true
  rw [← Array.all_toList, List.all_eq_true]
  intro c hc
  exact decide_eq_true (letters_low c (of_decide_eq_true (h.2.2 c hc)))

/-! the columns of the second set of laws: dicts -/
def colB (c : Col) : List (Key × V) := [(Sum.inr "name", .str c.name), (Sum.inr "g", .int c.top), (Sum.inr "d", c.dflt), (Sum.inr "n", .int c.num)]
theorem colB_vals (c : Col) : valV (colB c) (Sum.inr "name") = some (.str c.name) ∧ valV (colB c) (Sum.inr "g") = some (.int c.top) ∧ valV (colB c) (Sum.inr "d") = some c.dflt ∧ valV (colB c) (Sum.inr "n") = some (.int c.num) := by
  have h1 : ¬ ((Sum.inr "name" : Key) = (Sum.inr "g" : Key)) := by decide +kernel
  have h2 : ¬ ((Sum.inr "name" : Key) = (Sum.inr "d" : Key)) := by decide +kernel
  have h3 : ¬ ((Sum.inr "name" : Key) = (Sum.inr "n" : Key)) := by decide +kernel
  have h4 : ¬ ((Sum.inr "g" : Key) = (Sum.inr "d" : Key)) := by decide +kernel
  have h5 : ¬ ((Sum.inr "g" : Key) = (Sum.inr "n" : Key)) := by decide +kernel
  have h6 : ¬ ((Sum.inr "d" : Key) = (Sum.inr "n" : Key)) := by decide +kernel
  unfold colB
  refine ⟨valV_pos rfl, ?_, ?_, ?_⟩
  · simp [valV, h1]
  · simp [valV, h2, h4]
  · simp [valV, h3, h5, h6]
section
variable {H : Hp} {a : Addr} {c : Col}
theorem bc_name (h : H a = some (.dK (colB c))) : DGet H a (.str "name") (some (.str c.name)) := by
  rw [← (colB_vals c).1]; exact DGet.k (k := Sum.inr "name") h
theorem bc_g (h : H a = some (.dK (colB c))) : DGet H a (.str "g") (some (.int c.top)) := by
  rw [← (colB_vals c).2.1]; exact DGet.k (k := Sum.inr "g") h
theorem bc_d (h : H a = some (.dK (colB c))) : DGet H a (.str "d") (some c.dflt) := by
  rw [← (colB_vals c).2.2.1]; exact DGet.k (k := Sum.inr "d") h
theorem bc_n (h : H a = some (.dK (colB c))) : DGet H a (.str "n") (some (.int c.num)) := by
  rw [← (colB_vals c).2.2.2]; exact DGet.k (k := Sum.inr "n") h
end
theorem colB_put (c : Col) : (∀ s : Str, putK (colB c) (Sum.inr "name") (.str s) = colB { c with name := s }) ∧ (∀ i : Int, putK (colB c) (Sum.inr "g") (.int i) = colB { c with top := i }) ∧ (∀ v : V, putK (colB c) (Sum.inr "d") v = colB { c with dflt := v }) := by
  have h1 : ¬ ((Sum.inr "name" : Key) = (Sum.inr "g" : Key)) := by decide +kernel
  have h2 : ¬ ((Sum.inr "name" : Key) = (Sum.inr "d" : Key)) := by decide +kernel
  have h3 : ¬ ((Sum.inr "name" : Key) = (Sum.inr "n" : Key)) := by decide +kernel
  have h4 : ¬ ((Sum.inr "g" : Key) = (Sum.inr "d" : Key)) := by decide +kernel
  have h5 : ¬ ((Sum.inr "g" : Key) = (Sum.inr "n" : Key)) := by decide +kernel
  have h6 : ¬ ((Sum.inr "d" : Key) = (Sum.inr "n" : Key)) := by decide +kernel
  have k1 : ¬ ((Sum.inr "g" : Key) = (Sum.inr "name" : Key)) := fun e => h1 e.symm
  have k2 : ¬ ((Sum.inr "d" : Key) = (Sum.inr "name" : Key)) := fun e => h2 e.symm
  have k3 : ¬ ((Sum.inr "n" : Key) = (Sum.inr "name" : Key)) := fun e => h3 e.symm
  have k4 : ¬ ((Sum.inr "d" : Key) = (Sum.inr "g" : Key)) := fun e => h4 e.symm
  have k5 : ¬ ((Sum.inr "n" : Key) = (Sum.inr "g" : Key)) := fun e => h5 e.symm
  have k6 : ¬ ((Sum.inr "n" : Key) = (Sum.inr "d" : Key)) := fun e => h6 e.symm
  refine ⟨fun s => ?_, fun i => ?_, fun v => ?_⟩
  · simp [colB, putK, k1, k2, k3]
  · simp [colB, putK, h1, k4, k5]
  · simp [colB, putK, h2, h4, k6]
theorem colB_merge {n : Str} {g k : Int} {d : V} : mergeK [] [(Sum.inr "name", .str n), (Sum.inr "g", .int g), (Sum.inr "d", d), (Sum.inr "n", .int k)] = colB ⟨n, g, d, k⟩ := by
  have h1 : ¬ ((Sum.inr "name" : Key) = (Sum.inr "g" : Key)) := by decide +kernel
  have h2 : ¬ ((Sum.inr "name" : Key) = (Sum.inr "d" : Key)) := by decide +kernel
  have h3 : ¬ ((Sum.inr "name" : Key) = (Sum.inr "n" : Key)) := by decide +kernel
  have h4 : ¬ ((Sum.inr "g" : Key) = (Sum.inr "d" : Key)) := by decide +kernel
  have h5 : ¬ ((Sum.inr "g" : Key) = (Sum.inr "n" : Key)) := by decide +kernel
  have h6 : ¬ ((Sum.inr "d" : Key) = (Sum.inr "n" : Key)) := by decide +kernel
  simp [mergeK, putK, colB, h1, h2, h3, h4, h5, h6]
inductive BCols (H : Hp) : List Addr → List Col → Prop
  | nil : BCols H [] []
  | cons {a : Addr} {as : List Addr} {c : Col} {cs : List Col} : H a = some (.dK (colB c)) → BCols H as cs → BCols H (a :: as) (c :: cs)
theorem BCols.keepN {H H' : Hp} (s : KeepNL H H') : ∀ {as : List Addr} {cs : List Col}, BCols H as cs → BCols H' as cs
  | _, _, .nil => .nil
  | _, _, .cons h t => .cons (s _ _ (fun _ z => by cases z) h) (t.keepN s)
theorem BCols.keep {H H' : Hp} (s : Same H H') {as : List Addr} {cs : List Col} (h : BCols H as cs) : BCols H' as cs := h.keepN (KeepNL.of s)
theorem BCols.len {H : Hp} : ∀ {as : List Addr} {cs : List Col}, BCols H as cs → as.length = cs.length
  | _, _, .nil => rfl
  | _, _, .cons _ t => congrArg Nat.succ t.len
theorem BCols.at_ {H : Hp} : ∀ {as : List Addr} {cs : List Col} {i : Nat} {a : Addr}, BCols H as cs → as[i]? = some a → ∃ c, cs[i]? = some c ∧ H a = some (.dK (colB c))
  | _, _, _, _, .nil, e => by simp at e
  | _, _, 0, _, .cons h t, e => by
    simp at e
    subst e
    exact ⟨_, rfl, h⟩
  | _, _, i + 1, a, .cons h t, e => by
    obtain ⟨c, h1, h2⟩ := BCols.at_ (i := i) (a := a) t (by simpa using e)
    exact ⟨c, by simpa using h1, h2⟩
theorem BCols.app {H : Hp} : ∀ {as bs : List Addr} {cs ds : List Col}, BCols H as cs → BCols H bs ds → BCols H (as ++ bs) (cs ++ ds)
  | _, _, _, _, .nil, h => h
  | _, _, _, _, .cons h t, q => .cons h (t.app q)
theorem BCols.of_vs {H : Hp} : ∀ {ys : List V} {cs : List Col}, ys.length = cs.length → (∀ (i : Nat) (y : V), ys[i]? = some y → ∃ a c, y = .ref a ∧ cs[i]? = some c ∧ H a = some (.dK (colB c))) → ∃ as, ys = as.map V.ref ∧ BCols H as cs
  | [], [], _, _ => ⟨[], rfl, .nil⟩
  | [], _ :: _, h, _ => by cases h
  | _ :: _, [], h, _ => by cases h
  | y :: ys, c :: cs, h, f => by
    obtain ⟨a, c', rfl, q, ha⟩ := f 0 y rfl
    obtain rfl := Option.some.inj q
    obtain ⟨as, rfl, hh⟩ := BCols.of_vs (ys := ys) (cs := cs) (Nat.succ.inj h) fun i y' h1 => f (i + 1) y' (by simpa using h1)
    exact ⟨a :: as, rfl, .cons ha hh⟩

/-! the history of the second set of laws: a dict that is made anew at each change -/
/-- the words may be left out -/
def wordsK : Option Addr → List (Key × V)
  | some wd => [(Sum.inr "words", .ref wd)]
  | none => []
def bhDict (sh ch : Addr) (n : Int) (wd : Option Addr) : List (Key × V) := (Sum.inr "sheets", .ref sh) :: (Sum.inr "changes", .ref ch) :: (Sum.inr "given", .int n) :: wordsK wd
theorem bh_vals (sh ch : Addr) (n : Int) (wd : Option Addr) : valV (bhDict sh ch n wd) (Sum.inr "sheets") = some (.ref sh) ∧ valV (bhDict sh ch n wd) (Sum.inr "changes") = some (.ref ch) ∧ valV (bhDict sh ch n wd) (Sum.inr "given") = some (.int n) := by
  have h1 : ¬ ((Sum.inr "sheets" : Key) = (Sum.inr "changes" : Key)) := by decide +kernel
  have h2 : ¬ ((Sum.inr "sheets" : Key) = (Sum.inr "given" : Key)) := by decide +kernel
  have h4 : ¬ ((Sum.inr "changes" : Key) = (Sum.inr "given" : Key)) := by decide +kernel
  unfold bhDict
  refine ⟨valV_pos rfl, ?_, ?_⟩
  · simp [valV, h1]
  · simp [valV, h2, h4]
theorem bh_word (sh ch : Addr) (n : Int) (wd : Addr) : valV (bhDict sh ch n (some wd)) (Sum.inr "words") = some (.ref wd) := by
  have h3 : ¬ ((Sum.inr "sheets" : Key) = (Sum.inr "words" : Key)) := by decide +kernel
  have h5 : ¬ ((Sum.inr "changes" : Key) = (Sum.inr "words" : Key)) := by decide +kernel
  have h6 : ¬ ((Sum.inr "given" : Key) = (Sum.inr "words" : Key)) := by decide +kernel
  unfold bhDict wordsK
  simp [valV, h3, h5, h6]
/-- it is no column's dict -/
theorem bh_noname (sh ch : Addr) (n : Int) (wd : Option Addr) : valV (bhDict sh ch n wd) (Sum.inr "name") = none := by
  have z1 : ¬ ((Sum.inr "sheets" : Key) = (Sum.inr "name" : Key)) := by decide +kernel
  have z2 : ¬ ((Sum.inr "changes" : Key) = (Sum.inr "name" : Key)) := by decide +kernel
  have z3 : ¬ ((Sum.inr "given" : Key) = (Sum.inr "name" : Key)) := by decide +kernel
  have z4 : ¬ ((Sum.inr "words" : Key) = (Sum.inr "name" : Key)) := by decide +kernel
  cases wd <;> simp [bhDict, wordsK, valV, z1, z2, z3, z4]
theorem bh_few (sh ch : Addr) (n : Int) (wd : Option Addr) : (bhDict sh ch n wd).length < sizeLine := by
  have e : sizeLine = 16777216 := by decide
  cases wd <;> (rw [e]; simp [bhDict, wordsK])
section
variable {H : Hp} {h sh ch : Addr} {wd : Option Addr} {n : Int}
theorem bh_sheets (q : H h = some (.dK (bhDict sh ch n wd))) : DGet H h (.str "sheets") (some (.ref sh)) := by
  rw [← (bh_vals sh ch n wd).1]; exact DGet.k (k := Sum.inr "sheets") q
theorem bh_changes (q : H h = some (.dK (bhDict sh ch n wd))) : DGet H h (.str "changes") (some (.ref ch)) := by
  rw [← (bh_vals sh ch n wd).2.1]; exact DGet.k (k := Sum.inr "changes") q
theorem bh_given (q : H h = some (.dK (bhDict sh ch n wd))) : DGet H h (.str "given") (some (.int n)) := by
  rw [← (bh_vals sh ch n wd).2.2]; exact DGet.k (k := Sum.inr "given") q
end
theorem bh_put (sh ch : Addr) (n : Int) (wd : Option Addr) : (∀ s : Addr, putK (bhDict sh ch n wd) (Sum.inr "sheets") (.ref s) = bhDict s ch n wd) ∧ (∀ s : Addr, putK (bhDict sh ch n wd) (Sum.inr "changes") (.ref s) = bhDict sh s n wd) ∧ (∀ i : Int, putK (bhDict sh ch n wd) (Sum.inr "given") (.int i) = bhDict sh ch i wd) := by
  have h1 : ¬ ((Sum.inr "sheets" : Key) = (Sum.inr "changes" : Key)) := by decide +kernel
  have h2 : ¬ ((Sum.inr "sheets" : Key) = (Sum.inr "given" : Key)) := by decide +kernel
  have h4 : ¬ ((Sum.inr "changes" : Key) = (Sum.inr "given" : Key)) := by decide +kernel
  have k1 : ¬ ((Sum.inr "changes" : Key) = (Sum.inr "sheets" : Key)) := fun e => h1 e.symm
  have k2 : ¬ ((Sum.inr "given" : Key) = (Sum.inr "sheets" : Key)) := fun e => h2 e.symm
  have k3 : ¬ ((Sum.inr "words" : Key) = (Sum.inr "sheets" : Key)) := by decide +kernel
  have k4 : ¬ ((Sum.inr "given" : Key) = (Sum.inr "changes" : Key)) := fun e => h4 e.symm
  have k5 : ¬ ((Sum.inr "words" : Key) = (Sum.inr "changes" : Key)) := by decide +kernel
  have k6 : ¬ ((Sum.inr "words" : Key) = (Sum.inr "given" : Key)) := by decide +kernel
  refine ⟨fun s => ?_, fun s => ?_, fun i => ?_⟩
  · cases wd <;> simp [bhDict, wordsK, putK, k1, k2, k3]
  · cases wd <;> simp [bhDict, wordsK, putK, h1, k4, k5]
  · cases wd <;> simp [bhDict, wordsK, putK, h2, h4, k6]
theorem bh_merge {sh ch : Addr} {n : Int} {wd : Addr} : mergeK [] [(Sum.inr "sheets", .ref sh), (Sum.inr "changes", .ref ch), (Sum.inr "given", .int n), (Sum.inr "words", .ref wd)] = bhDict sh ch n (some wd) := by
  have h1 : ¬ ((Sum.inr "sheets" : Key) = (Sum.inr "changes" : Key)) := by decide +kernel
  have h2 : ¬ ((Sum.inr "sheets" : Key) = (Sum.inr "given" : Key)) := by decide +kernel
  have h3 : ¬ ((Sum.inr "sheets" : Key) = (Sum.inr "words" : Key)) := by decide +kernel
  have h4 : ¬ ((Sum.inr "changes" : Key) = (Sum.inr "given" : Key)) := by decide +kernel
  have h5 : ¬ ((Sum.inr "changes" : Key) = (Sum.inr "words" : Key)) := by decide +kernel
  have h6 : ¬ ((Sum.inr "given" : Key) = (Sum.inr "words" : Key)) := by decide +kernel
  simp [mergeK, putK, bhDict, wordsK, h1, h2, h3, h4, h5, h6]
/-- the sheets, by their places -/
def BSh (H : Hp) (es : List Addr) (eds : List (List Col)) : Prop := es.length = eds.length ∧ ∀ (i : Nat) (e : Addr) (cs : List Col), es[i]? = some e → eds[i]? = some cs → ∃ as : List Addr, H e = some (.lst (as.map V.ref)) ∧ BCols H as cs
/-- the words, where there are any -/
def WdAt (H : Hp) : Option Addr → List Str → Prop
  | some wd, ws => H wd = some (.lst (ws.map V.str))
  | none, ws => ws = []
theorem WdAt.keep {H H' : Hp} (s : Same H H') : ∀ {wd : Option Addr} {ws : List Str}, WdAt H wd ws → WdAt H' wd ws
  | some _, _, h => s _ _ h
  | none, _, h => h
theorem WdAt.there {H : Hp} : ∀ {wd : Option Addr} {ws : List Str}, WdAt H wd ws → ws ≠ [] → ∃ w, wd = some w ∧ H w = some (.lst (ws.map V.str))
  | some w, _, h, _ => ⟨w, rfl, h⟩
  | none, _, h, n => absurd h n
theorem bh_words {H : Hp} {h sh ch wd : Addr} {n : Int} (q : H h = some (.dK (bhDict sh ch n (some wd)))) : DGet H h (.str "words") (some (.ref wd)) := by
  rw [← bh_word sh ch n wd]; exact DGet.k (k := Sum.inr "words") q
def BhAt (K : PySem.W.Frag) (H : Hp) (h : Addr) (cs : List Col) (chs : List Ch) (ws : List Str) : Prop := ∃ (sh ch : Addr) (wd : Option Addr) (es ts : List Addr), H h = some (.dK (bhDict sh ch (atC cs chs).2 wd)) ∧ H sh = some (.lst (es.map V.ref)) ∧ BSh H es (edsTo cs chs (chs.length + 1)) ∧ H ch = some (.lst (ts.map V.ref)) ∧ Chs K H ts chs ∧ WdAt H wd ws
theorem BSh.keep {H H' : Hp} {es : List Addr} {eds : List (List Col)} (s : Same H H') (q : BSh H es eds) : BSh H' es eds := ⟨q.1, fun i e cs h1 h2 => by
  obtain ⟨as, h3, h4⟩ := q.2 i e cs h1 h2
  exact ⟨as, s _ _ h3, h4.keep s⟩⟩
theorem BhAt.keep {K : PySem.W.Frag} {H H' : Hp} {h : Addr} {cs : List Col} {chs : List Ch} {ws : List Str} (s : Same H H') (q : BhAt K H h cs chs ws) : BhAt K H' h cs chs ws := by
  obtain ⟨sh, ch, wd, es, ts, h1, h2, h3, h4, h5, h6⟩ := q
  exact ⟨sh, ch, wd, es, ts, s _ _ h1, s _ _ h2, h3.keep s, s _ _ h4, h5.keep s, h6.keep s⟩
theorem strs_no {ws : List Str} {a b : Int} : ¬ ws.map V.str = [.int a, .int b] := fun e => by
  cases ws with
  | nil => cases e
  | cons x xs => cases (List.cons.inj e).1
theorem BhAt.but {K : PySem.W.Frag} {H H' : Hp} {h p : Addr} {cs : List Col} {chs : List Ch} {ws : List Str} {y0 y1 : Int} (q : BhAt K H h cs chs ws) (hp : H p = some (.lst [.int y0, .int y1])) (bt : But p H H') : BhAt K H' h cs chs ws := by
  obtain ⟨sh, ch, wd, es, ts, h1, h2, h3, h4, h5, h6⟩ := q
  have kn := KeepNL.ofBut hp bt
  have no : ∀ {a : Addr} {as : List Addr}, H a = some (.lst (as.map V.ref)) → H' a = some (.lst (as.map V.ref)) := fun {a as} e => bt _ _ (fun z => by
    rw [z, hp] at e
    exact refs_no (HO.lst.inj (Option.some.inj e)).symm) e
  refine ⟨sh, ch, wd, es, ts, kn _ _ (fun _ z => by cases z) h1, no h2, ⟨h3.1, fun i e c k1 k2 => ?_⟩, no h4, h5.keepNL kn, ?_⟩
  · obtain ⟨as, k3, k4⟩ := h3.2 i e c k1 k2
    exact ⟨as, no k3, k4.keepN kn⟩
  · cases wd with
    | none => exact h6
    | some wd =>
      have h6 : H wd = some (.lst (ws.map V.str)) := h6
      refine bt _ _ (fun z => ?_) h6
      rw [z, hp] at h6
      exact strs_no (HO.lst.inj (Option.some.inj h6)).symm
/-- a sheet, looked up -/
theorem BhAt.sheet {K : PySem.W.Frag} {H : Hp} {h : Addr} {cs : List Col} {chs : List Ch} {ws : List Str} (q : BhAt K H h cs chs ws) {m : Nat} (hm : m ≤ chs.length) : ∃ (sh : Addr) (es : List Addr) (e : Addr) (as : List Addr), DGet H h (.str "sheets") (some (.ref sh)) ∧ H sh = some (.lst (es.map V.ref)) ∧ es.length = chs.length + 1 ∧
    es[m]? = some e ∧ H e = some (.lst (as.map V.ref)) ∧ BCols H as (atC cs (chs.take m)).1 := by
  obtain ⟨sh, ch, wd, es, ts, h1, h2, h3, h4, h5, h6⟩ := q
  have hl : es.length = chs.length + 1 := by rw [h3.1, edsTo_len]
  have hem : es[m]? = some (es[m]'(by omega)) := List.getElem?_eq_getElem (by omega)
  obtain ⟨as, hea, hec⟩ := h3.2 m _ _ hem (edsTo_get (by omega))
  exact ⟨sh, es, _, as, bh_sheets h1, h2, hl, hem, hea, hec⟩
/-- the last of a list, by -1 -/
theorem at_last {as : List Addr} {n : Nat} {e : Addr} (hl : as.length = n + 1) (h : as[n]? = some e) : atI (as.map V.ref) (-1) = some (.ref e) := by
  unfold atI ixN
  rw [if_neg (by omega), if_pos (by rw [List.length_map]; omega), List.length_map, show ((-1 : Int) + (as.length : Nat)).toNat = n by omega]
  show (as.map V.ref)[n]? = _
  rw [List.getElem?_map, h]
  rfl
/-- a sheet, and the history's own dict -/
theorem BhAt.sheetR {K : PySem.W.Frag} {H : Hp} {h : Addr} {cs : List Col} {chs : List Ch} {ws : List Str} (q : BhAt K H h cs chs ws) {m : Nat} (hm : m ≤ chs.length) : ∃ (sh ca : Addr) (wd : Option Addr) (n : Int) (es : List Addr) (e : Addr) (as : List Addr), H h = some (.dK (bhDict sh ca n wd)) ∧ H sh = some (.lst (es.map V.ref)) ∧ es.length = chs.length + 1 ∧
    es[m]? = some e ∧ H e = some (.lst (as.map V.ref)) ∧ BCols H as (atC cs (chs.take m)).1 := by
  obtain ⟨sh, ch, wd, es, ts, h1, h2, h3, h4, h5, h6⟩ := q
  have hl : es.length = chs.length + 1 := by rw [h3.1, edsTo_len]
  have hem : es[m]? = some (es[m]'(by omega)) := List.getElem?_eq_getElem (by omega)
  obtain ⟨as, hea, hec⟩ := h3.2 m _ _ hem (edsTo_get (by omega))
  exact ⟨sh, ch, wd, _, es, _, as, h1, h2, hl, hem, hea, hec⟩
/-- a change, looked up -/
theorem BhAt.change {K : PySem.W.Frag} {H : Hp} {h : Addr} {cs : List Col} {chs : List Ch} {ws : List Str} (q : BhAt K H h cs chs ws) {m : Nat} {ch : Ch} (hm : chs[m]? = some ch) : ∃ (ca : Addr) (ts : List Addr) (t : Addr), DGet H h (.str "changes") (some (.ref ca)) ∧ H ca = some (.lst (ts.map V.ref)) ∧ ts.length = chs.length ∧ ts[m]? = some t ∧ ChAt K H t ch := by
  obtain ⟨sh, ca, wd, es, ts, h1, h2, h3, h4, h5, h6⟩ := q
  have hl : ts.length = chs.length := h5.len
  have hml := (List.getElem?_eq_some_iff.mp hm).1
  have ht : ts[m]? = some (ts[m]'(by omega)) := List.getElem?_eq_getElem (by omega)
  obtain ⟨c, e1, e2⟩ := h5.at_ ht
  obtain rfl := Option.some.inj (hm.symm.trans e1)
  exact ⟨ca, ts, _, bh_changes h1, h4, hl, ht, e2⟩

def sp_law (K : PySem.W.Frag) : Sp := fun vs H Q _ => ∃ (a : Addr) (ns : List Int), vs = [.ref a] ∧ SqL K H a (ns.map V.int) ∧ ns.length ≤ 63 ∧ (∀ z ∈ ns, Builtin.Int.intBits z ≤ 1048576) ∧ ∀ H', Q (.bl true) H'
abbrev NL : List Str := ["_law_script", "_law_k", "_law_pool_here", "_law_h", "_law_history_here", "_law_last", "_law_seat", "_law_there", "_law_due", "_law_at", "_law_odd"]
theorem ok_law (T : Tx K mg) {fd : FuncData} (F : FunD K "law" "law" (defArgs s_law) (defBody s_law) (defScope s_law) (d_law.dvs K) (d_law.kws K) (He.ga K "law") fd) : FnOk P w K mg base CX0 14 (He.ga K "law") fd ["_law_script"] (sp_law K) := by
  have Cpool := (ok_pool (P := P) (w := w) (base := base) T).up (show 1 ≤ 13 by decide)
  have Chist := (ok_law_history (P := P) (w := w) (base := base) T).up (show 5 ≤ 13 by decide)
  have Cmade := ok_made (P := P) (w := w) (base := base) T
  have Cal := (ok_alive (P := P) (w := w) (base := base) T).up (show 1 ≤ 13 by decide)
  have Cone := (ok_one9 (P := P) (w := w) (base := base) T).up (show 7 ≤ 13 by decide)
  have Ct := (ok_told9 (P := P) (w := w) (base := base) T).up (show 6 ≤ 13 by decide)
  obtain ⟨fdB, FB, bB⟩ := ok_Hist_born (P := P) (w := w) (base := base) T
  obtain ⟨fdD, FD, bD⟩ := ok_Hist_dropped (P := P) (w := w) (base := base) T
  obtain ⟨fdC, FC, _, dsC, vC, bC⟩ := ok_Hist_columns (P := P) (w := w) (base := base) T
  obtain ⟨fdE, FE, bE⟩ := ok_Col_eq (P := P) (w := w) (base := base) T
  have gr : mg "range" = none := fr_range T
  have gl : mg "len" = none := fr_len T
  refine F.ok (CX := CX0) (N := NL) sc_law (fun vs H Q E h => ?_) (fun cdv A outer s H vs Q E hr h => ?_)
  · obtain ⟨a, ns, rfl, _⟩ := h
    rfl
  suffices hh : ∃ t, PSs (cxOf CX0 P w K mg base NL "law" (defScope s_law) (He.ga K "law") cdv A outer s H E).nox (defBody s_law) t ∧ t { nx := fun _ H' => Q .non H', rt := Q } (start NL vs) H by
    obtain ⟨t, h1, h2⟩ := hh
    exact ⟨t, h1.nox, h2⟩
  obtain ⟨a, ns, rfl, hs, hlen, _, kk⟩ := h
  have nd := sc_law.nd
  have hu := hu_of hr
  have hr2 : Room 2 _ := hr.mono (by decide)
  have hr3 : Room 3 _ := hr.mono (by decide)
  have hr5 : Room 5 _ := hr.mono (by decide)
  refine ⟨_, (pss_cons (ps_for PassesOwn.never rfl (pi_range1 (by rfl) gr (pa_cons (pe_callB (call_max2 rfl) (by rfl) (fr_max T) (by decide +kernel) (pa_cons pe_int (pa_cons (pe_callB (call_min2 rfl) (by rfl) (fr_min T) (by decide +kernel) (pa_cons (pe_callB call_len (by rfl) gl PySem.boot_len (pa_cons (pv 0) pa_nil)) (pa_cons pe_int pa_nil))) pa_nil))) pa_nil)) (pg_name (i := 1) nd rfl (Or.inl rfl)) (pss_cons (ps_set (i := 2) nd rfl (Or.inl rfl) (pcall Cpool hr (pa_cons (pv 0) (pa_cons (pv 1) pa_nil))))
      (pss_cons (ps_set (i := 3) nd rfl (Or.inl rfl) (pcall Chist hr (pa_cons (pv 2) (pa_cons pe_int (pa_cons pe_int pa_nil)))))
      (pss_cons (ps_par (i := 4) (j := 5) rfl nd rfl rfl (by decide) rfl rfl (pa_cons (pcall Cmade hr (pa_cons (pv 3) pa_nil)) (pa_cons (pe_callB call_len (by rfl) gl PySem.boot_len (pa_cons (pe_dget hu (pv 3) pe_str (fun _ _ => rfl)) pa_nil)) pa_nil)) (by rfl))
      (pss_cons (ps_for PassesOwn.never rfl (pi_range1 (by rfl) gr (pa_cons (pe_dget hu (pv 3) pe_str (fun _ _ => rfl)) pa_nil)) (pg_name (i := 6) nd rfl (Or.inl rfl))
        (pss_cons (ps_set (i := 7) nd rfl (Or.inl rfl) (pcall Cal hr (pa_cons (pv 3) (pa_cons (pv 6) pa_nil))))
        (pss_cons (ps_set (i := 8) nd rfl (Or.inl rfl) (pe_ifExp (pt_cmpR op_eq (pe_ix ix_list (pv 7) (pe_un un_neg pe_int) (fun _ _ => rfl)) (pv 5) (nomark _)) pe_non (pe_op op_add (pe_ix ix_list (pv 7) (pe_un un_neg pe_int) (fun _ _ => rfl)) pe_int)))
        (pss_one (ps_if (PW.pt (pw_or (pt_cmpR op_ne (pe_meth (pv 4) (cl_History T) (me_History_born T) FB hr3 bB .nil pass0 (pa_cons (pv 6) pa_nil)) (pe_ix ix_list (pv 7) pe_int (fun _ _ => rfl)) (nomark _)) (pw_or1 (pt_cmpR op_ne (pe_meth (pv 4) (cl_History T) (me_History_dropped T) FD hr3 bD .nil pass0 (pa_cons (pv 6) pa_nil)) (pv 8) (nomark _))))) (pss_one (ps_ret pe_bl)) pss_nil)))))
      (pss_cons (ps_for PassesOwn.never rfl (pi_range1 (by rfl) gr (pa_cons (pe_op op_add (pv 5) pe_int) pa_nil)) (pg_name (i := 9) nd rfl (Or.inl rfl))
        (pss_one (ps_if (pt_not (pt_val (pcall Cone hr (pa_cons (pv 3) (pa_cons (pv 4) (pa_cons (pv 9) pa_nil)))))) (pss_one (ps_ret pe_bl)) pss_nil)))
      (pss_cons (ps_if (PW.pt (pw_or (pt_cmpR (op_neOwn FE (me_Column___eq__ T) (neC_of (ex_Column_ne T)) hr2 bE pass0) (pcall Ct hr (pa_cons pe_int (pa_cons (pv 4) (pa_cons (pe_ix ix_tup (pe_ix ix_list (pe_ix ix_list (pe_dget hu (pv 3) pe_str (fun _ _ => rfl)) (pe_un un_neg pe_int) (fun _ _ => rfl)) pe_int (fun _ _ => rfl)) pe_int (fun _ _ => rfl)) (pa_cons pe_non pa_nil))))) (pe_ix ix_list (pe_meth0 (pv 4) (cl_History T) (me_History_columns T) FC hr5 bC vC pass0) pe_int (fun _ _ => rfl)) (nomark _))
          (pw_or1 (pt_cmpR (op_neD (hr64 hr)) (pcall Ct hr (pa_cons pe_int (pa_cons (pv 4) (pa_cons pe_non (pa_cons pe_non pa_nil))))) (pe_lst (pa_cons pe_str (pa_cons pe_str pa_nil))) (nomark _))))) (pss_one (ps_ret pe_bl)) pss_nil)
      (pss_cons (ps_for PassesOwn.never rfl (pi_list (pe_lst (pa_cons pe_non (pa_cons (pe_un un_neg pe_int) (pa_cons (pe_dget hu (pv 3) pe_str (fun _ _ => rfl)) (pa_cons pe_bl (pa_cons pe_str pa_nil))))))) (pg_name (i := 10) nd rfl (Or.inl rfl))
        (pss_one (ps_if (PW.pt (pw_or (pt_cmpR (op_neD (hr64 hr)) (pcall Ct hr (pa_cons pe_int (pa_cons (pv 4) (pa_cons (pv 10) (pa_cons pe_non pa_nil))))) (pe_lst (pa_cons pe_str (pa_cons (pe_callB call_reprV (by rfl) (fr_repr T) (by decide +kernel) (pa_cons (pv 10) pa_nil)) pa_nil))) (nomark _))
          (pw_or1 (pt_cmpR (op_neD (hr64 hr)) (pcall Ct hr (pa_cons pe_int (pa_cons (pv 4) (pa_cons (pv 10) (pa_cons pe_non pa_nil))))) (pe_lst (pa_cons pe_str (pa_cons (pe_callB call_reprV (by rfl) (fr_repr T) (by decide +kernel) (pa_cons (pv 10) pa_nil)) pa_nil))) (nomark _))))) (pss_one (ps_ret pe_bl)) pss_nil)))
      (pss_one (ps_for PassesOwn.never rfl (pi_list (pe_lst (pa_cons (pe_un un_neg pe_int) (pa_cons (pe_op op_add (pv 5) pe_int) (pa_cons pe_bl (pa_cons pe_str pa_nil)))))) (pg_name (i := 10) nd rfl (Or.inl rfl))
        (pss_one (ps_if (PW.pt (pw_or (pt_cmpR (op_neD (hr64 hr)) (pcall Ct hr (pa_cons pe_int (pa_cons (pv 4) (pa_cons pe_non (pa_cons (pv 10) pa_nil))))) (pe_lst (pa_cons pe_str (pa_cons (pe_callB call_reprV (by rfl) (fr_repr T) (by decide +kernel) (pa_cons (pv 10) pa_nil)) pa_nil))) (nomark _))
          (pw_or1 (pt_cmpR (op_neD (hr64 hr)) (pcall Ct hr (pa_cons pe_int (pa_cons (pv 4) (pa_cons pe_non (pa_cons (pv 10) pa_nil))))) (pe_lst (pa_cons pe_str (pa_cons (pe_callB call_reprV (by rfl) (fr_repr T) (by decide +kernel) (pa_cons (pv 10) pa_nil)) pa_nil))) (nomark _))))) (pss_one (ps_ret pe_bl)) pss_nil))))))))))))
      (pss_one (ps_ret pe_bl))), ?_⟩
  refine ⟨_, rfl, _, (ns.map V.int).length, rfl, .inl ⟨_, hs, rfl⟩, _, _, rfl, _, _, rfl, _, rfl, ?_, ?_, ?_⟩
  · split <;> (try split) <;> omega
  · split <;> (try split) <;> omega
  generalize hN : (if (if (2 : Int) < (((ns.map V.int).length : Nat) : Int) then (2 : Int) else (((ns.map V.int).length : Nat) : Int)) > 1 then (if (2 : Int) < (((ns.map V.int).length : Nat) : Int) then (2 : Int) else (((ns.map V.int).length : Nat) : Int)) else 1) = nT
  have hT2 : nT ≤ 2 := by
    rw [← hN]
    split <;> (try split) <;> omega
  refine for_range (lo := 0) (n := nT.toNat) (fun i σ H' => Same H H' ∧ ∃ y1 y2 y3 y4 y5 y6 y7 y8 y9 y10 : Option V, σ = [some (.ref a), y1, y2, y3, y4, y5, y6, y7, y8, y9, y10]) ⟨Same.refl _, _, _, _, _, _, _, _, _, _, _, rfl⟩ ?_ ?_
  case refine_2 =>
    rintro σ H' ⟨_, y1, y2, y3, y4, y5, y6, y7, y8, y9, y10, rfl⟩
    exact kk H'
  rintro i σ H0 hi ⟨sH, y1, y2, y3, y4, y5, y6, y7, y8, y9, y10, rfl⟩
  have hk0 : 0 ≤ (0 : Int) + (i : Int) := by omega
  have hk1 : (0 : Int) + (i : Int) ≤ 1000 := by omega
  generalize hkk : (0 : Int) + (i : Int) = kI at hk0 hk1
  refine q_asgX ⟨_, rfl, _, rfl, a, ns, kI, rfl, sH.seq hs, hk0, hk1, fun p H1 z0 z1 np s1 hp => ?_⟩
  refine q_asgX ⟨_, rfl, p, z0, z1, 8, 3, rfl, hp, by decide, by decide, by decide, by decide, fun h cs chs y0 y1 H2 nh b2 hp2 hL hO hfew => ?_⟩
  refine ⟨_, rfl, h, cs, chs, rfl, hL, hO, fun h2 H3 nh2 s3 hQ => ?_⟩
  have hL3 := hL.keep s3
  have s03 : Same H0 H3 := (But.same b2 s1 np).trans s3
  have hH := hQ.at_
  obtain ⟨sh, ch, es, ts, q1, q2, q3, q4, q5⟩ := id hL3
  refine ⟨_, rfl, h, .ref ch, rfl, (lat_get q1).2.1, _, chs.length, rfl, .inl ⟨_, sqL_of q4, by rw [List.length_map, q5.len]⟩, _, _, rfl, ?_⟩
  have few := hO.few
  have hg0 : 0 ≤ (atC cs chs).2 ∧ (atC cs chs).2 ≤ 60 := by
    have e1 := (hO.f.good hO.g chs.length (Nat.le_refl _)).nn
    have e2 := atC_le (cs := cs) (chs := chs) chs.length (Nat.le_refl _)
    have h6 := hO.g.six
    rw [List.take_length] at e1 e2
    omega
  have gE := hO.f.good hO.g chs.length (Nat.le_refl _)
  rw [List.take_length] at gE
  -- behind the four names nothing changes but by new objects
  have back : ∀ {H' : Hp}, Same H3 H' → Same H H' := fun s' => (sH.trans s03).trans s'
  try dsimp only
  refine ⟨_, rfl, h, _, rfl, (lat_get q1).2.2, _, rfl, by omega, by omega, ?_⟩
  refine for_range (lo := 0) (n := (atC cs chs).2.toNat) (fun i σ H' => Same H3 H' ∧ ∃ x6 x7 x8 x9 x10 : Option V, σ = [some (.ref a), some (.int kI), some (.ref p), some (.ref h), some (.ref h2), some (.int (chs.length : Nat)), x6, x7, x8, x9, x10]) ⟨Same.refl _, _, _, _, _, _, rfl⟩ ?_ ?_
  · rintro i σ H4 hi ⟨s4, x6, x7, x8, x9, x10, rfl⟩
    generalize hn : (0 : Int) + (i : Int) = n
    have h0 : 0 ≤ n := by omega
    have h1 : n < (atC cs chs).2 := by omega
    refine q_asgX ⟨_, rfl, _, rfl, h, cs, chs, n, rfl, hL3.keep s4, hO, fun l H5 nl s5 hl => ?_⟩
    have s5 := s4.trans s5
    have hH5 := hH.keep s5
    obtain ⟨w0, hw0⟩ := alive_first hO h0 h1
    obtain ⟨v, _, hv2⟩ := drop_at hO h0 h1
    obtain ⟨e, he, hel, _⟩ := alive_last hO h0 h1 hv2
    obtain ⟨dx, fs, hi2, no1⟩ := histMx "born" (by decide +kernel) hH5
    obtain ⟨_, _, hi3, no2⟩ := histMx "dropped" (by decide +kernel) hH5
    have hl0 : atI (aliveL cs chs n) 0 = some (.int (bornN cs chs n : Nat)) := ix_int (by decide) (by rw [hw0]; rfl)
    -- what dropped has to tell
    obtain ⟨vd, hvd⟩ : ∃ vd : V, vd = if e = chs.length then V.non else V.int ((e : Int) + 1) := ⟨_, rfl⟩
    have same : ∀ v, DropIs cs chs n chs.length v → v = vd := fun v hv => by
      obtain ⟨e', he', _, hv3⟩ := alive_last hO h0 h1 hv
      rw [he] at he'
      have : ((e : Nat) : Int) = (e' : Nat) := V.int.inj (Option.some.inj he')
      have : e = e' := by omega
      rw [hv3, hvd, this]
    refine s_seq (fun σ' X => Same H3 X ∧ X l = some (.lst (aliveL cs chs n)) ∧ σ' = [some (.ref a), some (.int kI), some (.ref p), some (.ref h), some (.ref h2), some (.int (chs.length : Nat)), some (.int n), some (.ref l), some vd, x9, x10]) ?_ fun kk => ?_
    · rintro σ' X ⟨sX, hlX, rfl⟩
      have hHX := hH.keep sX
      obtain ⟨dx, fs, hi2, no1⟩ := histMx "born" (by decide +kernel) hHX
      obtain ⟨_, _, hi3, no2⟩ := histMx "dropped" (by decide +kernel) hHX
      try dsimp only
      refine ⟨_, rfl, h2, dx, fs, rfl, hi2, no1, _, rfl, h2, cs, chs, n, rfl, hHX, hO, h0, h1, _, rfl, l, _, 0, _, rfl, rfl, sqL_of hlX, hl0, rfl, _, rfl, iteNS rfl ?_⟩
      refine ⟨_, rfl, h2, _, _, rfl, hi3, no2, _, rfl, h2, cs, chs, n, rfl, hHX, hO, h0, h1, fun v hv => ?_⟩
      rw [same v hv]
      have fin : Same H3 X ∧ ∃ z6 z7 z8 z9 z10 : Option V, [some (V.ref a), some (.int kI), some (.ref p), some (.ref h), some (.ref h2), some (.int (chs.length : Nat)), some (.int n), some (.ref l), some vd, x9, x10] = [some (.ref a), some (.int kI), some (.ref p), some (.ref h), some (.ref h2), some (.int (chs.length : Nat)), z6, z7, z8, z9, z10] := ⟨sX, _, _, _, _, _, rfl⟩
      by_cases hq : e = chs.length
      · rw [if_pos hq] at hvd
        subst hvd
        exact ⟨_, rfl, rfl, _, rfl, iteNS rfl (nxt fin)⟩
      · rw [if_neg hq] at hvd
        subst hvd
        exact ⟨_, rfl, rfl, _, rfl, iteNS rfl (nxt fin)⟩
    · refine ⟨_, rfl, _, rfl, l, _, -1, _, rfl, rfl, sqL_of hl, he, _, rfl, rfl, _, rfl, ?_⟩
      by_cases hq : e = chs.length
      · rw [if_pos hq] at hvd
        subst hvd
        exact iteDT (by rw [hq]) (kk _ _ ⟨s5, hl, rfl⟩)
      · rw [if_neg hq] at hvd
        subst hvd
        exact iteD (fun z => hq (by have := V.int.inj z; omega)) ⟨_, rfl, _, rfl, l, _, -1, _, rfl, rfl, sqL_of hl, he, _, _, rfl, rfl, kk _ _ ⟨s5, hl, rfl⟩⟩
  rintro σ H4 ⟨s4, x6, x7, x8, x9, x10, rfl⟩
  try dsimp only
  refine ⟨_, rfl, _, _, rfl, rfl, _, rfl, by omega, by omega, ?_⟩
  refine for_range (lo := 0) (n := (((chs.length : Nat) : Int) + 1).toNat) (fun i σ H' => Same H3 H' ∧ ∃ x6 x7 x8 x9 x10 : Option V, σ = [some (.ref a), some (.int kI), some (.ref p), some (.ref h), some (.ref h2), some (.int (chs.length : Nat)), x6, x7, x8, x9, x10]) ⟨s4, _, _, _, _, _, rfl⟩ ?_ ?_
  · rintro m σ H5 hm ⟨s5, x6, x7, x8, x9, x10, rfl⟩
    rw [show (0 : Int) + (m : Int) = (m : Int) from Int.zero_add _]
    refine ⟨_, rfl, _, rfl, _, rfl, h, h2, cs, chs, m, rfl, hL3.keep s5, hH.keep s5, hO, by omega, fun H6 s6 => ⟨_, rfl, iteF (nxt ⟨s5.trans s6, _, _, _, _, _, rfl⟩)⟩⟩
  rintro σ H5 ⟨s5, x6, x7, x8, x9, x10, rfl⟩
  try dsimp only
  have few1 : chs.length ≤ 1000 := by omega
  -- the first column at present, by its name
  have hnat : edOf chs.length V.non = ((chs.length : Nat) : Int) := rfl
  have ecol : colsAt cs chs .non = (atC cs chs).1 := by
    show (atC cs (chs.take (chs.length : Int).toNat)).1 = _
    rw [show ((chs.length : Nat) : Int).toNat = chs.length from rfl, List.take_length]
  obtain ⟨sh2, es2, e2, as2, w1, w2, w3, w4, w5, w6⟩ := (hL3.keep s5).sheet (m := chs.length) (Nat.le_refl _)
  rw [List.take_length] at w6
  obtain ⟨c0, rest, ec0⟩ : ∃ c0 rest, (atC cs chs).1 = c0 :: rest := by
    cases q : (atC cs chs).1 with
    | nil =>
      have := gE.one
      rw [q] at this
      cases this
    | cons c0 rest => exact ⟨c0, rest, rfl⟩
  have hc0 : c0 ∈ (atC cs chs).1 := by rw [ec0]; exact List.mem_cons_self
  have hv0 := (gE.ok c0 hc0).1
  rw [ec0] at w6
  cases w6 with
  | @cons a0 asr c' r' hat0 w6 =>
  have hnm := hv0.nm
  have okn : okV (.str c0.name) = true := nm_ok hnm
  have find0 : namedV (colsAt cs chs .non) (.str c0.name) = some c0 := by
    rw [ecol]
    exact find_uniq gE.names hc0 rfl
  have hH5 := hH.keep s5
  refine ⟨_, rfl, _, rfl, h, _, rfl, w1, _, rfl, sh2, _, -1, .ref e2, rfl, rfl, sqL_of w2, at_last w3 w4, e2, _, 0, .ref a0, rfl, rfl, sqL_of w5, ix_int (by decide) rfl, a0, _, 0, _, rfl, rfl, sqT_of hat0, rfl, h2, cs, chs, 2, .str c0.name, .non, rfl, hH5, hO, okn, rfl, .inr (.inr ⟨rfl, .inl rfl, (fun q => by rw [find0] at q; cases q), fun a1 c1 hf ha1 => ?_⟩)⟩
  rw [find0] at hf
  obtain rfl := Option.some.inj hf
  obtain ⟨dx, fs, hi2, no1⟩ := histMx "columns" (by decide +kernel) hH5
  refine ⟨_, rfl, h2, dx, fs, rfl, hi2, no1, h2, cs, chs, .non, rfl, hH5, few1, .inl rfl, fun lc ac H6 nlc s6 hlc hcc => ?_⟩
  rw [ecol, ec0] at hcc
  cases hcc with
  | @cons b0 bs _ _ hb0 hcc =>
  obtain ⟨dx1, ha1⟩ := id ha1
  obtain ⟨dx2, hb0⟩ := id hb0
  refine ⟨lc, _, 0, .ref b0, rfl, rfl, sqL_of hlc, ix_int (by decide) rfl, a1, dx1, _, b0, dx2, _, rfl, rfl, s6 _ _ ha1, hb0, a1, b0, c0, c0, rfl, ⟨dx1, s6 _ _ ha1⟩, ⟨dx2, hb0⟩, in_val hv0.df, in_val hv0.df, ?_⟩
  rw [colEq_self]
  have hH6 := hH5.keep s6
  refine ⟨_, rfl, _, rfl, iteF ?_⟩
  have s36 := s5.trans s6
  refine ⟨_, rfl, h2, cs, chs, 2, .non, .non, rfl, hH6, hO, rfl, rfl, .inr (.inr ⟨rfl, .inl rfl, fun _ => ⟨rfl, fun p7 H7 s7 hp7 => ?_⟩, fun a c q => by cases q⟩)⟩
  refine ⟨by show 2 ≤ sizeLine; decide, fun F7 nF => ?_⟩
  have s8 := same_new (o := .lst [.str "name", .str "None"]) nF
  refine ne_two (w := "name") (z := "None") (s8 _ _ hp7) upd_same (by decide +kernel) (by decide +kernel) ⟨_, rfl, iteF (nxt ?_)⟩
  have sB : Same H3 (upd H7 F7 (.lst [.str "name", .str "None"])) := (s36.trans s7).trans s8
  generalize upd H7 F7 (.lst [.str "name", .str "None"]) = H8 at sB
  clear s8 hp7 nF s7
  dsimp only
  have given := (lat_get (sB _ _ q1)).2.2
  refine ⟨_, rfl, _, rfl, h, _, rfl, given, by show 5 ≤ sizeLine; decide, fun L nL => ⟨L, rfl, ⟨_, sqL_of upd_same⟩, ?_⟩⟩
  have sL := same_new (o := .lst [.non, .int (-1), .int (atC cs chs).2, .bl true, .str "0"]) nL
  refine for_list (xs := [.non, .int (-1), .int (atC cs chs).2, .bl true, .str "0"]) (fun i σ H' => Same H3 H' ∧ H' L = some (.lst [.non, .int (-1), .int (atC cs chs).2, .bl true, .str "0"]) ∧ ∃ x6 x7 x8 x9 x10 : Option V, σ = [some (.ref a), some (.int kI), some (.ref p), some (.ref h), some (.ref h2), some (.int (chs.length : Nat)), x6, x7, x8, x9, x10]) ⟨sB.trans sL, upd_same, _, _, _, _, _, rfl⟩ (fun i σ H' _ q => sqL_of q.2.1) ?_ ?_
  · rintro i x σ H9 hx ⟨s9, hL9, x6, x7, x8, x9, x10, rfl⟩
    obtain ⟨okx, orx, gx, ozx⟩ : okV x = true ∧ okR x = true ∧ givB (atC cs chs).2 x = false ∧ okV (.str (reprV x)) = true := by
      rcases List.mem_cons.mp (List.mem_of_getElem? hx) with rfl | hv
      · exact ⟨rfl, rfl, rfl, by decide +kernel⟩
      rcases List.mem_cons.mp hv with rfl | hv
      · exact ⟨rfl, by decide +kernel, rfl, by decide +kernel⟩
      rcases List.mem_cons.mp hv with rfl | hv
      · have o60 : okR (.int (atC cs chs).2) = true := okR_int hg0.1 (by omega)
        refine ⟨rfl, o60, ?_, repr_okV (fun _ z => by cases z) o60⟩
        show (decide (0 ≤ (atC cs chs).2) && decide ((atC cs chs).2 < (atC cs chs).2)) = false
        rw [decide_eq_false (show ¬ (atC cs chs).2 < (atC cs chs).2 by omega), Bool.and_false]
      rcases List.mem_cons.mp hv with rfl | hv
      · exact ⟨rfl, rfl, rfl, by decide +kernel⟩
      rcases List.mem_cons.mp hv with rfl | hv
      · exact ⟨by decide +kernel, by decide +kernel, rfl, by decide +kernel⟩
      · cases hv
    refine ⟨_, rfl, _, rfl, h2, cs, chs, 0, x, .non, rfl, hH.keep s9, hO, okx, rfl, .inl ⟨.inl rfl, gx, orx, fun p1 H10 s10 hp1 => ?_⟩⟩
    refine ⟨_, rfl, x, rfl, orx, by show 2 ≤ sizeLine; decide, fun p2 n2 => ?_⟩
    have s11 := same_new (o := .lst [.str "column", .str (reprV x)]) n2
    refine ne_two (w := "column") (z := reprV x) (s11 _ _ hp1) upd_same (by decide +kernel) ozx ⟨_, rfl, iteF ?_⟩
    have t1 := (s9.trans s10).trans s11
    have tL := s11 _ _ (s10 _ _ hL9)
    refine ⟨_, rfl, _, rfl, h2, cs, chs, 1, x, .non, rfl, hH.keep t1, hO, okx, rfl, .inl ⟨.inr rfl, gx, orx, fun p3 H12 s12 hp3 => ?_⟩⟩
    refine ⟨_, rfl, x, rfl, orx, by show 2 ≤ sizeLine; decide, fun p4 n4 => ?_⟩
    have s13 := same_new (o := .lst [.str "column", .str (reprV x)]) n4
    exact ne_two (w := "column") (z := reprV x) (s13 _ _ hp3) upd_same (by decide +kernel) ozx ⟨_, rfl, iteF (nxt ⟨(t1.trans s12).trans s13, s13 _ _ (s12 _ _ tL), _, _, _, _, _, rfl⟩)⟩
  rintro σ H9 ⟨s9, _, x6, x7, x8, x9, x10, rfl⟩
  dsimp only
  refine ⟨_, rfl, _, rfl, _, _, rfl, rfl, by show 4 ≤ sizeLine; decide, fun L nL => ⟨L, rfl, ⟨_, sqL_of upd_same⟩, ?_⟩⟩
  have sL := same_new (o := .lst [.int (-1), .int ((chs.length : Nat) + 1), .bl true, .str "0"]) nL
  refine for_list (xs := [.int (-1), .int ((chs.length : Nat) + 1), .bl true, .str "0"]) (fun i σ H' => Same H3 H' ∧ H' L = some (.lst [.int (-1), .int ((chs.length : Nat) + 1), .bl true, .str "0"]) ∧ ∃ x6 x7 x8 x9 x10 : Option V, σ = [some (.ref a), some (.int kI), some (.ref p), some (.ref h), some (.ref h2), some (.int (chs.length : Nat)), x6, x7, x8, x9, x10]) ⟨s9.trans sL, upd_same, _, _, _, _, _, rfl⟩ (fun i σ H' _ q => sqL_of q.2.1) ?_ ?_
  · rintro i x σ H9 hx ⟨s9, hL9, x6, x7, x8, x9, x10, rfl⟩
    obtain ⟨okx, orx, nx, ex, ozx⟩ : okV x = true ∧ okR x = true ∧ x ≠ .non ∧ isEd chs.length x = false ∧ okV (.str (reprV x)) = true := by
      rcases List.mem_cons.mp (List.mem_of_getElem? hx) with rfl | hv
      · exact ⟨rfl, by decide +kernel, (fun z => by cases z), rfl, by decide +kernel⟩
      rcases List.mem_cons.mp hv with rfl | hv
      · have o60 : okR (.int ((chs.length : Nat) + 1)) = true := okR_int (by omega) (by omega)
        refine ⟨rfl, o60, (fun z => by cases z), ?_, repr_okV (fun _ z => by cases z) o60⟩
        show (decide ((0 : Int) ≤ (chs.length : Nat) + 1) && decide (((chs.length : Nat) : Int) + 1 ≤ (chs.length : Nat))) = false
        rw [decide_eq_false (show ¬ ((chs.length : Nat) : Int) + 1 ≤ (chs.length : Nat) by omega), Bool.and_false]
      rcases List.mem_cons.mp hv with rfl | hv
      · exact ⟨rfl, rfl, (fun z => by cases z), rfl, by decide +kernel⟩
      rcases List.mem_cons.mp hv with rfl | hv
      · exact ⟨by decide +kernel, by decide +kernel, (fun z => by cases z), rfl, by decide +kernel⟩
      · cases hv
    refine ⟨_, rfl, _, rfl, h2, cs, chs, 2, .non, x, rfl, hH.keep s9, hO, rfl, okx, .inr (.inl ⟨.inl rfl, nx, ex, orx, fun p1 H10 s10 hp1 => ?_⟩)⟩
    refine ⟨_, rfl, x, rfl, orx, by show 2 ≤ sizeLine; decide, fun p2 n2 => ?_⟩
    have s11 := same_new (o := .lst [.str "edition", .str (reprV x)]) n2
    refine ne_two (w := "edition") (z := reprV x) (s11 _ _ hp1) upd_same (by decide +kernel) ozx ⟨_, rfl, iteF ?_⟩
    have t1 := (s9.trans s10).trans s11
    have tL := s11 _ _ (s10 _ _ hL9)
    refine ⟨_, rfl, _, rfl, h2, cs, chs, 3, .non, x, rfl, hH.keep t1, hO, rfl, okx, .inr (.inl ⟨.inr rfl, nx, ex, orx, fun p3 H12 s12 hp3 => ?_⟩)⟩
    refine ⟨_, rfl, x, rfl, orx, by show 2 ≤ sizeLine; decide, fun p4 n4 => ?_⟩
    have s13 := same_new (o := .lst [.str "edition", .str (reprV x)]) n4
    exact ne_two (w := "edition") (z := reprV x) (s13 _ _ hp3) upd_same (by decide +kernel) ozx ⟨_, rfl, iteF (nxt ⟨(t1.trans s12).trans s13, s13 _ _ (s12 _ _ tL), _, _, _, _, _, rfl⟩)⟩
  rintro σ H10 ⟨s10, _, x6, x7, x8, x9, x10, rfl⟩
  exact nxt ⟨back s10, _, _, _, _, _, _, _, _, _, _, rfl⟩
end
theorem factsR {w : World} {K : PySem.W.Frag} {h : Heap} {mg : Str → Option Value} {f : Addr} (X : K.In h) (G : h.Ns mainGlobals mg) (hfa : mg ("law" : Str) = some (.ref f)) (c : He.SaysD fal fnl K ∧ exl K = true) :
    LawOk PySem.Challenge.rw_editionrows_k09_whole_numbers w mg CX0 14 63 "_law_script" f K := by
  have T : Tx K mg := ⟨c.1, c.2, h, X, G⟩
  obtain ⟨fd, F⟩ := fd_law T
  have e := hfa.symm.trans (mg_law T)
  cases e
  have b := FunD.bindsA (ps := ["_law_script"]) F fun _ _ _ _ _ _ us hl => match us, hl with | [_], _ => rfl
  exact ⟨fd, sp_law K, fun s v => b s [v] rfl, fun H a ns hl hb _ hS => ⟨a, ns, rfl, hS, hl, hb, fun _ => rfl⟩, fun base _ _ => ok_law T F⟩
end ER
open PySem PySem.W PySem.Calls PyProof.Rows
set_option maxRecDepth 100000 in
set_option maxHeartbeats 8000000 in
theorem PySem.Challenge.cw_editionrows_k09_whole_numbers_holds : PySem.Challenge.rw_editionrows_k09_whole_numbers.Holds := by
  w_on; o_law
  refine HandSHeadRun.head_any (r := OpenLaw.row PySem.Challenge.rw_editionrows_k09_whole_numbers) (q := view (OpenLaw.row PySem.Challenge.rw_editionrows_k09_whole_numbers).prog [67]) (H := ER.hkR) (ob := ER.obR) (M := 9000) (loose := ER.looseR) (d := HandSHeadRun.topDef (OpenLaw.row PySem.Challenge.rw_editionrows_k09_whole_numbers).prog 67) (kwd := []) ER.obR_eq
    (by kernel_rfl) (fun s => by kernel_rfl) ER.runR (by kernel_rfl) (by kernel_rfl) (by kernel_rfl) (by rfl) (by first | assumption | decide +kernel) (by decide +kernel) ⟨rfl, rfl, rfl, rfl, rfl, by decide +kernel⟩ ?hw ?hc
  case hw => w_witness2
  case hc =>
    refine Evl2.walk_bits (l := PySem.Challenge.rw_editionrows_k09_whole_numbers) (n := 63) (k := 14) (x := "_law_script") (CX := L2.CX0) rfl (by decide) (by kernel_rfl) ⟨rfl, by decide, by decide⟩ ?F (fun _ _ _ _ z => z)
    intro w mg fa h Y G hmg0
    obtain ⟨K, KX, c⟩ := Y
    have hmg : mg ("law" : PySem.Str) = some (.ref fa) := by
      have e : (HandSHeadRun.topDef (OpenLaw.row PySem.Challenge.rw_editionrows_k09_whole_numbers).prog 67).name = ("law" : PySem.Str) := by kernel_rfl
      rw [← e]
      exact hmg0
    exact ⟨K, KX, ER.factsR (w := w) KX G hmg c⟩

