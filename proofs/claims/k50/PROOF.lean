import PyProof.Rows.All
import Wide.All
import OpenK.AllK
import Wide.FinOn
import Lean
import PyProof.EqAt
import PyProof.EqKinds
import PyProof.TupleCall
import PyProof.ZipIter
import PyProof.Draws
import PyProof.EnumMake
import PyProof.ExcStrCall
import PyProof.ExcStrAll.ValueError
import PyProof.TupleOfStr
import PyProof.DictIter
import PyProof.DictWalks
import PyProof.Rows.SetFrom
import PyProof.CollectWalk
import PyProof.Rows.SortShell
import PyProof.Rows.SortWalk
import PyProof.ListRange
import KE.KEqDict
import KE.KDictSum
import KE.KIntText
import PyProof.Rows.StrFirst
import PyProof.Rows.FStr
import PyProof.FString
import PyProof.PureStr
import PyProof.FactsAll.str_6
import PyProof.ToksMono
import PyProof.FitsReplace
import PySem.Challenge.RW_bracketrows_k50_whole_a_long_day
set_option Elab.async false
set_option linter.all false
set_option maxRecDepth 100000
set_option compiler.extract_closed false
def zZ(m d:Lean.Syntax):Lean.Syntax:=(Lean.Syntax.node2 .none `Lean.Parser.Command.declaration m d).rewriteBottomUp (·.setInfo .none)
def zX(m d:Lean.Syntax):List Char->Nat->Nat->List Lean.Syntax
|[],_,_=>[]
|c::s,10,k=>zZ m (d.setArg 1 (d[1].setArg 0 (Lean.mkIdent (.mkSimple s!"tw{k*60+c.toNat-65}"))))::zX m d s 0 0
|c::s,n,k=>zX m d s (n+1) (k*60+c.toNat-65)
def zJ(x y:Lean.Name):Lean.Syntax:=.node5 .none `Lean.Parser.Term.explicitBinder (Lean.mkAtom "(") (Lean.mkNullNode #[Lean.mkIdent x]) (Lean.mkNullNode #[Lean.mkAtom ":",Lean.mkIdent y]) (Lean.mkNullNode) (Lean.mkAtom ")")
def zK(p:Prop):Prop:=p
def zY{p:Prop}(h:zK p):p:=h
def zU{p:Prop}(h:p):zK p:=h
def zV(m d:Lean.Syntax):Lean.MacroM Lean.Syntax:=do
 if d.getPos?.isNone||m.getPos?.isSome then Lean.Macro.throwUnsupported
 let m:=if d.isOfKind `Lean.Parser.Command.definition||d.isOfKind `Lean.Parser.Command.abbrev then m.setArg 4 (.node1 .none `null .missing) else m
 let d:=if d[2][1][0][1].isOfKind `Lean.Parser.Term.type then d.setArg 2 ((d[2].setArg 0 (Lean.mkNullNode (d[2][0].getArgs++#[zJ `vs `gr,zJ `H `Hp,zJ `Q `VK,zJ `E `XK]))).setArg 1 (Lean.mkNullNode #[.node2 .none `Lean.Parser.Term.typeSpec (Lean.mkAtom ":") (.node1 .none `Lean.Parser.Term.prop (Lean.mkAtom "Prop"))])) else d
 let s:=d[1][0].getId.getString!.toList
 let v:=d[3][1]
 let q<-`(zY (by simp (disch:=with_unfolding_all exact $(.mk v)) only[↓zU]))
 let d:=if v.isOfKind `Lean.Parser.Term.app&&(v[0].getId==`Zy||[`Ak,`qp,`yL,`Pd,`xo].contains d[2][1][0][1][0].getId) then d.setArg 3 (d[3].setArg 1 q) else d
 return if s.length<99 then zZ m d else Lean.mkNullNode (zX m d s 0 0).toArray
local macro_rules|`($m:declModifiers $d:theorem)=>zV m d
local macro_rules|`($m:declModifiers $d:inductive)=>zV m d
local macro_rules|`($m:declModifiers $d:structure)=>zV m d
local macro_rules|`($m:declModifiers $d:definition)=>zV m d
namespace PySem.W.Fast
def «R]]IOBgTxtKLzGgmv_ivv^PxUuGzGJCRzUMjtQrTXw^NXbajHc]sEhcCHyOi`idTtfCtNLO[aBhy]GDOGE^HbL|QSYCUwYqdqtkYSUT]hlvGHyCvNXwAZqdq]MgAZpOGdYkp_M_kKawIlxVFFurMbPlwXKHMfXfgaWs^IIrYVDXn_xXy^SleZRVcSbs[yIcqQpi_\mQJZBLwMiBWrGBbD]{wRTGhLMFcVU[nfQVHSGoPUNEsHqSKTb_izqkYLKmgwbND`UqhOZtuXTaST||MnZZKXGcsac[dk`xMXtKuzPTjHcKTUJcYR^OFJWCxXgNKPFbLNp\Z^XYMX[tN^_rhWGTZ{CvaMH_kIIWzzgLmndGJ^|hahJ^S]WJMhfpZ|K^]XXmxxpzYUhNHJrvs|vi[]YiYVxCit]\Z[gQ\zMDkL{YybLT|`CmKGUA`FWQoCtoP^vtHrkqzbUm\]PK{H|ymyIxLqMHPDicCmFi{NOBwTOxYsAz\q{\hZuMUmZOxzACtZxcc]OtFb_olydgEHLyh\nTz[ChA]oFVGxgl`{SXDW`rVe{frIjO[TZPQpnFPSNWJ\hjsICHXoCqZYQ|ocUnFy]_KOqoaO_BClvzJwCcCW|xEqD\mQgLToUnGN|z\SKZQpjDiJg\[AecXQm\^YvRWOgSTzRHvlaC_LrYMVAADGDmNomWTHwQ[\xxCyT]eEasQewqepUtHCKK_nDm\EkfRzUxkZIt`QHfdI_]OBmBW^|rXXqYHqUkWmNVcb|liNeumuCEBejNQqCn|TNWsXDUkMqrEDkAWpkDghhLmyDdgMYAjNDJUlz]vBFzWFWeQgIqpcGDPPlCwQHBzaYPNIJFAEmRaxBO]HwlheHQnL[na`j`ARsnYmR[vTKdiRZCx[eYEZ\|ET^cupgz`i]zfRlcUsU{UMUJZzRJdKmk{ImTnU{BzvFZVOR]j_[p_eaYQW_JODlsJKMG[r[HQWOVXBNIyr`v`]GpSb[iDIJU{xOcmDtf]nWIDFuTNXeDPX[wDAmRZeT{qGIegFGIUzLouTSPlRz{WlzadpMgP|nGd\InLaDTmSBctC\CofIi`uAStPNmqV|_kfNvVL{|IJBzZmSQJ_S[CkmbIGenyuR_ysiXnGOuXDOh]CcEfyvYMagDyQpOvMHRQkuALCoCzfDBpWjRWGTVGHCfZKtEybMwT|iGQVkf`H]H_Zm\nTtoDEQTBPREjS{h]G\HXCRdNKOO^YZiM\xlq`PPR^ylB^f[NzLBLmIpmCWmWHrsFS^Vg|tOQdchmA`_KpT[addQkOLmaG[[enUCyQYZBE]PorxNM[XOGbWmQcJEd{dYsuNGrM^yhDR^mNUXua^F]LjNziOo_K_q[LAwZsSbnQiYhfMkVO_\htGR`{kyP\AIcPnhN[UAgy[tMQ^lDCf^l^XF]ZuYkfzJgTDuPZ{PV{pejYP^EzqoqXFAW|BKm{ZMAtTJ{ENUOTOe_{ThyZfbJZHFPXXl{zLxLakR_EMMwNC_D^yGUK`JclNzU_CaG\od`[dVXZWzvUVvc|WnYVAOJKOvMSOHa\XpVccQ[wLjpblLcWAUAHWuJ\qmoWmjEgp\cTCZ_|LDpAZlyZNKZqVlaGgvaktmQ^bobhiHeM\C[EFimsWi`Bn[fjEcIhYH`gYkiR]pcKEfPYpDjIdOiCu|KXZreEvkKQkAlcsvWWaLQkT`XQkSVfzuN[vUWvDK{Go|]oy|uiMtaCtFBuZ[rMs[iMIibcl\\eODCVUyBJ_{qCcoJG|CV[JzAw{[dc`{IfOGySH\lNcLDLpLHH_\YEyhlCQdD]hkOyzF_M[MD|bnFUqVBZYC`loKadxcnKKRj[{QRKEvAKgHWJFjxMRG^cnRWnyWfMD]YzdqL^Fj{XJZWkLFqpCcOX_`qgvnrkXCEryVbr|BhyI[OI_Rpi^ayRgcO|tQ{PyMIAssmG\Npg^IRqVnsFaeOvR`G]SWi|mL`QSkiRa|AFQjN|Yyte|^\szPfOfY^VWAtqVQtXnMX[{WbD[jyt`PQYVhZpAfdo{prOwPVoNQogkMkcUahYFVQiVTfDnroojCl[hjAjKLwmC`iiQUgqqoVxy^_B\MDO^Yxq[PE^KOmfzGBfhtLLWcMhC^U]D^{CGxQXwbqUXnlIVODn_nJKq[DkWymi^A_\acwaEPQ|M^]b[qFlAKtgMQiGjNhOUGxGZZ|v{eoG^c\LCOnryhyndCcHurw\sxwVWcBkujisZNyOkPNiqnedL^TCrAHZvC|]PLZIahJG]jVtYoxVoH]ijVxSI]XQLB]wB^_LJkguQMFKRIMoUSYcpC]YBFH{qLVyiBP^Zwbiyu]xna^|_iQxmBB|OCkwkIhBP[|[HperScxMvBNLNovDSSsxhxPT|FRGsj_hGKT^zcGBUaBLXWizT|XQiFOUiu_DwrOgfQQkqCcupowgrGMG_\]_ttj[DYL]tVeBiulD_kabeBJYBQTwo|\NaG[xWGmRv`wDN_`TYwEujsfvJynZZ`OSgCWVY\C\YxRjTcnbySQTR`HZJgIoP|WnuSNCYgJLz^Avx|_KTE]FjyI[bVDxRNkCKciiBj]jDkjwcmTmxv]LSkfWqjYSGFMrCb`M[tLxSPOTM_yss\JaJZvXmwLy`ctHxfPrY_e]zN^A\MnD{nJZ{U\wcWqXncEOFkBGE^cAJNQ[]CmUDHRWUkGABvpeDy{uvQtM^hDJQo|ILuTP[M^QjDlIAWmRLtrgJF\mbzxZ`yuyvORv[eEyIzdBTHVKy[ib]]xDHftdVMFMpWB[x{[Uwzpqg\WUctcjHp{MLjoQQS|L^YkF\pwEVkDXpfEzUQOexXd`JFEQXTPexlnw[hypuPZNgySWyiC^kqrHeIMNtoYvoaOgfIcyYazfVtsFFMNx]cWDTBxELWeYjDNRcb]wc]MQujYsGXdR|RkNB\GsXBi\ZaD_]lySpKs`o^Nd`WI]d]Jo`D|PHIY`zadbrnqUFgbTBNsUliDRq]MTGZwiw\BrnsHJjgbcUOlvaPnagjBN[ZwHmZYAQYMEV{CGEpMJNhPxgBZv\jaPsELSiW\Ea_j_N]emrlbibkUCnesJ[VUDM_[NIubnUZfUd^ZassPrGiM{AsuZ_aDPONiO_G]emzwUsX\ZNbhNu[Eb\Zqk\mMELueiDfDdPtNpFJy\LCnfHf|WuzHkI[lQ{CWUQDOQ\HnN{k^iBVXMiF|ZNZ]KxirsA]SrboAN^fYgxIvPZCVfm`^T\S[mWudTXMzJ^dqTuw]CUbJF[RVZ^jjhRUsNEPw`_Krq\Vwc]Fug^EkLBeuMUCXlKEdWnR^aoo]exYtvZMHaizqGvTZsZmnyz`fmKOHCPlerTiAhpJIMjeakAC[\AC_^GiZFJx[ZGpjTyoTaJWyCGHZVMGCm\IWJA{XIDrMtXAxAaQvOepS]VEaroJZMuQzLAwQedLmGuuWYNLQ^MjtXf^pFkzpj^LiMIAqePjUn|FiA[vMvnY{NuqLsD`dpLDdenUWGVchVzQVfIc[LsIqbW`k\pzMf{jJ]_dNr{pH\JTUCGNH^tqGuxsVZL_CYPNMdtTOOtexww\O`N[OMSuCzPXsSYPz`|nZYgUn{L_eysXWVFBjHoZIqSNu{\R\tTi|Ff]VM\\XxvFQVdePd[NUmwBdRsnbRklyDIbnHZANfdpPflGw]sTvKRNyvbXaHNruxg[SXHufO^myXLbMGl{Kk_TkEZYLt[FqZ_kdPPwhpRIjrazaLpoVBJ]DLgyEc]B[VsmejjaELVYbATLlCrtszYRxuJhB[owUXHBcsjNKpSGWFFvDIJJtSQMp\GwdgYYfSLxhLGMefTydWAVjCwPfCLhTO`WalRPI^_SaZ\qti]m[JPrJZbpJFNmEGWpSG`{nzlcWOdu`t^irmHCMmV\y_{tBXBwWFiAwBdHyRQurot\[u[PPape{CnwzM|NlwuDkPkkpkGAx\ERiaxQvA\QExCxATvDVHzrQYIvLJyUy\AHzogf\PIbkVcraxHGQDVJVRj[F[XhN{Kx^Fy|E[qJ]DVlJLVivtHAuLNMEdAiUXEZhLmQJBp[TtkIZCErMeyPio_d[\xlN[PqOuQRt\wExPkIttmnQjYVB[|XPNna`stGblu{TlgWuQ\vQOYSry^OHEXR]djEALTZO`{FCWxY^V^BTtEUwxuWb|]{wQsJjBTjn[HLKvyNaVVISSfPohmq\SnNZiBuVtujLRMIcy\KsACC]_PBgENfCxsJ\h{MvKgEBKXMlA_rFSMBzpBDauHIDF{\qWhT^ygL\HBHWEBTFlZnkSWB[F^njiq{[lFRszDedVgGXClGsJwNOu`YCGOg[cTq]lQ]u\TPfyr[W[AVFc^\NivnMGbyk[sHPlXhSM|iN[ftAzqQdyRlleebbgYYpXuPiah\mU_dFMRp[QVz[UOlHMpvGUxY|zeI{w[aXnVxzTLxGCdFjQD{sMrt[lZkWP|cQp{hX]jZxHlZ]obHHIZewpbfTAaNBVqjzARGClhvT|QcUn_zr|CSp]TB{FWbpSWxjTKaIvOc\]gqoMb|XcAkXfxYAarKwvqWXOeaBtwPxdF|tm_zaAMfOSeYMUybeXgX^iBm|\MwGJQIaD|EgiBXHhRwRUl_OHkfDMB`gz[`aRSE[EniUwDe`|FYeH^XgAmTLrB`OBSrxS^_r\ykK|SY^lnDCILJWqIveVOJAFpDH]K[SQBaNkmMCB\cCFgDVj`EwqzbI\ZisgADKJhUHG`GxNuNkcG{hjedaavp^OBfEVh_GsPgAhLxJCDIWrh^CtTeyp_NSbBrz`^xEOW^jPilh\^jfxoQS_PfcyI{YKkJ[F|RlPTLG_PsrxnylZQpYMo|yYZSzRNvIyCrRG|]l|qZ_[`HyxtgF{NLlZ\k\]J]_Zz{LS{CSaEpOBez|epuESR_KHf\{cDp^tQTFNmULt^|HISAS\BT^[vWHa[vXduxRrRGmwNNgvI^PD_[ZAgBZyeeD_OaOUkdm\Gr_MCtm|Ps\IPCKwwiuNqCWkVGoApwF]uGZUswQOHHywCkUnjSfGjRXBYTz{iwbQwJJqLaYsFHekXzGPVkSCXIwGN`BeSoVqYEkMdOuoiKmA|{sCHClOX|oPTXyFrAmdsHTAuX_YggvNvPz{o_TrCi|FRMBV^XHZBRAp|{WVAEKFN|PrLdSqAaWCl\gVgQrLtiEURBhMKJaEOuYqzalTTzAysG[M\FRqyNvyMviI]QOXbUSQmZYn\vmBuKTQnofHbxNYTZSPRfPZHqp{mIPZON`Z|tsQgQcc[fwlRH^la][UKhqnKZBaHiMRqv]_XrBOYDSOqWcLj_MaNLrnTBa{fTjEShI|JRw|`nVLTqKjFXIYGUhTeHHpvCrOTWlihGDmnUHRvE^WQcXpGfA``kVkmTKcBTbEInqB[OLpZ\kWuvKp^CL[DHNrwiTpuyMiDxBbCIuvJBCj`RQSygPvBvVUjij[uXtHkEEwdFtTwhGwwSo{_DIKcGo{SBATr|QXDviGfBG\WwNDICVgBO[{A`^Ts{bvVmsCe\UzZhSeiG^c[]QXguVgNfJVhq`Yk]VXjeTda\jFs^GOtRdeCdtEUhEQQvMDkZfDKPcOPtokVopeHa\UHsoCXFu[Y^rup^QDOAWCSn^rJWDbHGoNLkbycVW`mxYBrfWYEKGg]HbLjPV[\ddTLrEvhe{bzJZJv[dDxn`kGmJGzz]|W^\|oIQ{vRMlgAafIQHtJiIEK|LEifWSHwp|{yE[Dws|V[|Kf_Audmw]KXf|]B_`NFKkePHZEpBiIbQ`AeYPgyjCiTQL{XbMFfuwBvAoTmrav_DKqcVRLsSNcHjdIPL|B`hNTwQGYLPGlqWo[fA`JYCG^HTOWHwIfU`{wm|^SAHNKVhyROEIMAe`Jhve[RYjEtxeIHY{RrZ^lmGDqnUTW[]NLkyrHOH_OWgwK{]i_oHACFubzrlrnDsUQ]el|\wLZYULPT_lzsL[lRXTcG]MWBn`ZxBs`cmaq^VQW\wgrIiekYNGqjBAR_[ToMsR]CXUAmYcMaqCGFtOLEMMQAJiRDZui[K|nVRpENFZeKJ[u^kQOvarZfA[YCwgLmfABXjf\`rQ_UTcAIq`NFmgqSO|CuXq|WHTOKJxTizyXkDL_xN[`orug[LT|hgbHtIhLAtQVsx[vGmlISVqvKMSQIOAajVli_swcGDYmI`ZB\pypDR^N{ZNrL{`Z{x|s_oueXNZ^k{W\BcIoAYAUHs]uLbdyXaMzkQFAK[zW\qW{GMjk\\RHntZRrUbfBQS]wBNuTakxQP\WkUDwsDQP{Efn\PtkNbPq]uAak[EtFBcEzm`gVwKcP_ggWQTESzjPY\QR_HUDWOPG]Hx^OwolxPF`{HNsqFj|PERoWpbQIJaPDFvYXIAddUPC|x`pZC`VQOwjIF\|{qhAOkzOL{uD{_EO^UaGERS|fVBZQBnXIZRZPOKczX^LIY|MOHZdAIPjEoHNwcFxGliF`bNYNkgYi`CcWNGck\CKLnujNE_fgDq_lm`NB]eleMPOF[M{npYaeva{FMyLkOtsju_TMvwGvR|jZtmMoKYtGefMNZMcYhZyjvD]IMb`uxhZ|gGUMbSy`NzJYhgMS|TnzvYSzkMJ\ZrCyI|NwMBKNhX`kiR{LOW_hwYn\|rBFulSOtpa_bKXmbFet\{dCKVGNdqVynZpKOoWBizMApCJy]ZEnUq{hnJo]edGhUoHVJk[MFUcOjnbJkUWAgLhqvPJfDqgYShzy`JUVDLUVxNJmIpFcIubzeqQIndJFWiStMII^jBeDsw`mwIZOGCTxtGoWIJHmFKfn{i_IIQfCFZQVXLIDq|Iyk{_KXHhREg]mww\nHcCbxYQjBaYHNLBB]tTtgRGyfaOnjQmOkGxbZDg`wjWUGw\fcTMhKBbAEC_dDLKMbIAiWXjzRONyLG^h_hWZKvQgGBAiWobEy|ZF{j{\iQzsPCF{e\ztrS{h^AclDKUUKt`TFiUebLyVLTmFauDYaUvIaTFRDLNlBE^q]FLIf[]rIPbNExIJLtKL{sHElpfKAF\XimEbfs\HlfqaIEbOwTZy_CiwE^XtP]O`zYpEMQ]hPxnCoQEJgEjoJOf`ZD|wfhzIjykGDwDevf`bLO\DfpJKOJOMVzD`aF[m|TlpFDLN^Y|{CyVF_StkVeEtoo]_FT\aburTPm^nhB_gIL\K^^mAl\ALkPFB^jDb`wUfbwI^ehfxiGXeQ_^`cIwdUXmha^^TA{fubBVN^\uBIyRBtlr^OWAE_LgMDO^LNOzCnUUb^]|ejekW_Cj^]ut^HopQCxaCtlaJRVirWW]^D^n{tz\Go]OgUl\DTTOG]KKAPtAy[rn]Bti[QMGy|`]ARGATJggiU\vKczmHXgzYCnHC^V^nJ^zCm]ha]FMXq[\V{oPqaczUC\CUdkl|ruPq[qQ^aTwmjxB[pSiQ_JsjQT[hU]uS|Mv{x[guU[{RbxWF[WoKcCs`arK[Org]pzvPWr[GieVWZO^eL[EMzc\ryyUVZvoAL^wQSYeZ]R[CaGvbj_ZU{WBfLENiJZRcoailUM|\ZQkbxAUH_cxZLON]EgkvT|Yyly[`pISAvYi]PvRQKji_YdmhaCQOwbUYPf`sBizTHqXxdMgkrVETmXvZykm\|JAjXrsmbnMyEDWXpGQGYNagEiXkDsaqNwv]\XgOgDYZXxYECVc]rKQyA|`X]vXjVItgJfXORMCWYfgRZXGHEq]AKZujWx_DKD_[xdkWuo[ESRHt`ZWtJ{xuWq{`aWoffKUaoLBYCQddiB^hZl`WePos[eaABnW`hghTVX|\RW_Gdj|GqZgDWZfOdkRrMHTWEegXN{`UYMVrSVA]RCYbYVrQYiPbOr|EVpz^UQb_UrwVosE]wDvfdMVooCIDenvNmVleWsl|ZVBhVGhXG_n|bEDVDwXXSuBPwgUyGy]{hTbQaUxKBX_oQb[ZUw]qOnMrn^SUvLovYXYDC\Uhx^YiJgCU]UBEHenDijh_TykNc]PBzPWT[C^ShGSRw`TXCzHhMgFHmBxVqi_[{^w|TLLCXhj`TfSTDySCsOavqbBwDiGxskAQ{SsImzc^r|_{ShyzgOiDk^]SeseRg|fGnAS\ByVOnJG\OSB{JF]MlfYCSAo]cxRzG_cR|cyv{qHLDJRn\[PrvPfvsRkzBcxVpV[FRjjxV\A`TXERYifvweMUoRRR{`klN^[LgRKEkXzI|ijIRCdGwAkCOKDQopkBDqxtWMQnMRWvQXQKTQfXiMVKEuZIQbwrQvbSRjn»:=0
end PySem.W.Fast
def n'0{p:Prop}(h:p:=by rfl):p:=h
abbrev n':=n'0._auto_1
def pu0{p:Prop}(h:p:=by decide):p:=h
abbrev pu:=pu0._auto_1
def qg0{p:Prop}(h:p:=by and_intros):p:=h
abbrev qg:=qg0._auto_1
def qz0{p:Prop}(h:p:=by first|exact .inl rfl|exact .inr rfl|assumption):p:=h
abbrev qz:=qz0._auto_1
def q00{p:Prop}(h:p:=by intro _;rfl):p:=h
abbrev q0:=q00._auto_1
def rc0{p:Prop}(h:p:=by decide +kernel):p:=h
abbrev rc:=rc0._auto_1
def rn0{p:Prop}(h:p:=by first|exact Or.inl rfl|exact Or.inr (Or.inl rfl)|exact Or.inr (Or.inr rfl)):p:=h
abbrev rn:=rn0._auto_1
def rq0{p:Prop}(h:p:=by with_unfolding_all rfl):p:=h
abbrev rq:=rq0._auto_1
def rr0{p:Prop}(h:p:=by exact λ_ _=>rfl):p:=h
abbrev rr:=rr0._auto_1
def rt0{p:Prop}(h:p:=by assumption):p:=h
abbrev rt:=rt0._auto_1
def ry0{p:Prop}(h:p:=by exact Nr _):p:=h
abbrev ry:=ry0._auto_1
def sb0{p:Prop}(h:p:=by exact lY rfl):p:=h
abbrev sb:=sb0._auto_1
def sf0{p:Prop}(h:p:=by first|exact nobehind _ oY oY|rfl):p:=h
abbrev sf:=sf0._auto_1
local macro_rules|`($x<|>$y)=>`(autoParam $x $y)
noncomputable section
set_option tactic.hygienic false
set_option genSizeOf false
set_option genInjectivity false
local macro_rules|`($m:declModifiers $d:abbrev)=>zV m d
set_option bootstrap.genMatcherCode false
local macro_rules | `(tactic| lia) => `(tactic| first|lia (splits:=9)|omega)
abbrev gk:=List Nat
abbrev hE:=List PySem.Str
abbrev hO:=List Int
abbrev qq(x:PySem.Str):Prop:=(x==("__debug__":PySem.Str))=false
def aP:=@if_neg
def aU:=@if_pos
def ba:=@decide_eq_false
def be:=@decide_eq_true
def bD:=@decide_eq_true_eq
def bP:=@beq_iff_eq
def cx:=@congrArg
def dq:=@beq_eq_false_iff_ne
def f7:=@beq_self_eq_true
def gG:=@if_true
def gH:=@decide_eq_false_iff_not
def gX:=@if_false
def hV:=@decide_eq_decide
def iR:=@of_decide_eq_true
def j9:=@bne_iff_ne
def kS:=@or_false
def oY{p:Prop}(h:p<|>pu):p:=h
def bg{p:Prop}(h:p<|>rc):p:=h
def b'{p:Prop}(h:p:=by simp):p:=h
def dp{p:Prop}(h:p<|>rq):p:=h
def ft{p:Prop}(h:p:=by kernel_rfl):p:=h
def fv{p:Prop}(h:p:=by first|decide|decide +kernel):p:=h
def oZ{p:Prop}(h:p:=by lia):p:=h
section
open Array renaming getElem?_eq_getElem->bj,getElem?_eq_some_iff->bF,getElem?_toList->cg,length_toList->cB,getElem?_eq_none->dW,toList_push->gW,toList->hJ,getD->kf,toArray_toList->kl,append_assoc->lw,size_push->mZ
open Bool renaming false->au,false_ne_true->av,true->aw,and_eq_true->aW,or_eq_true->ce,false_eq_true->eJ,eq_iff_iff->fe,true_and->jj,beq_eq_decide_eq->j6,not_true->lv,not_eq_true'->lS,false_and->m8,or_false->nM
open Classical renaming propDecidable->ji
open False renaming elim->bH
open ForInStep renaming yield->bG
open Int renaming mul_nonneg->bA,mul_le_mul_of_nonneg_right->bQ,le_trans->b9,mul_le_mul->cH,le_refl->dw,toNat_natCast->fb,zero_mul->gj,pow_succ->gt,mul_assoc->gN,one_mul->gV,mul_le_mul_of_nonneg_left->hX,lt_irrefl->ig,fdiv_eq_ediv_of_nonneg->iy,mul_comm->iE,mul_left_comm->i4,natCast_add->j3,mul_zero->j4,toNat_of_nonneg->kL,add_mul->kM,neg_neg->mW,mul_one->mX,pow_nonneg->m6,add_zero->oa,pow_add->oC
open List renaming getD_eq_getElem?_getD->ag,getElem?_eq_getElem->al,getElem?_map->ao,length_map->az,size_toArray->aA,mem_cons_self->aG,range->aH,length_cons->aJ,mem_cons->aL,mem_cons_of_mem->aM,length_append->aN,getElem?_eq_some_iff->aR,mem_singleton->aS,mem_append_right->aX,map_cons->aY,replicate->aZ,all_eq_true->a',getElem?_range->bb,lookup_cons->bh,eq_nil_of_length_eq_zero->bE,mem_map->bJ,mem_range->bR,map_append->b0,getElem?_eq_none->b8,replicate_succ->ci,getElem?_set_ne->cm,range_succ->cr,flatten_cons->cu,mem_of_getElem?->cE,take_add_one->cL,getElem?_append_right->cN,mem_append_left->cP,mem_append->cS,append_nil->cT,length_take->cU,length_range->dt,getElem?_append_left->dA,map_map->dC,length_replicate->dD,any_cons->dG,map_congr_left->dO,length_nil->dP,filterMap_cons->dQ,take_of_length_le->dS,take_length->dZ,not_mem_nil->d0,getElem_mem->d2,lookup->eL,mem_iff_getElem->eO,forIn_cons->eZ,find?_cons->e6,eq_of_mem_replicate->e8,length->fj,take_zero->fw,getElem?_set_self->fx,pairwise_cons->fC,map_nil->fH,append_assoc->fQ,mem_of_mem_take->fR,getElem_toArray->fS,drop_zero->fX,mem_filterMap->gJ,length_eq_zero_iff->gK,all_cons->gM,range_succ_eq_map->gO,ext_getElem?->gU,length_singleton->hH,length_dropLast->ia,of_mem_zip->ip,nodup_cons->iq,flatMap_append->ir,length_eraseIdx_of_lt->ix,drop_eq_getElem_cons->iH,getElem?_set->i3,getElem?_replicate->jg,length_drop->jq,filter_cons->jr,pairwise_lt_range->jB,drop_of_length_le->jC,take_append_drop->jS,mem_of_mem_head?->jT,mem_iff_getElem?->jU,mem_filter->jV,length_set->jW,length_filter_le->jX,head?_drop->jY,getElem?_toArray->jZ,filterMap_append->j0,cons_lt_cons_iff->j1,head?->kc,replicate_succ'->ki,mem_of_mem_tail->kj,forIn_nil->kx,map_eq_nil_iff->kF,length_flatten->kG,flatten_append->kH,drop_succ_cons->kI,getElem?_take->li,getElem?_drop->lj,take_sublist->lM,getElem_drop->lN,any_nil->l8,zipIdx_cons->mq,mem_flatMap->mu,getElem_map->mx,zipIdx_nil->mP,range'->mR,nil_append->mS,foldl_cons->mT,find?_some->mU,tail_drop->m4,foldl->nu,all_map->n8
open List.Pairwise renaming sublist->j2,nil->lO,map->lP,imp->lQ
open List.Perm renaming cons->m5
open List.cons renaming injEq->mV,inj->nH
open List.range renaming loop->mQ
open Nat renaming le_refl->am,lt_of_lt_of_le->aQ,ne_of_lt->aT,zero_le->bt,le_trans->bw,le_of_lt->bZ,lt_irrefl->ck,lt_succ_self->cp,lt_succ_of_lt->cq,lt_of_le_of_lt->dE,ne_of_gt->eF,lt_trans->eG,sub_self->ff,le_succ->f',le_of_eq->gi,le_succ_of_le->gR,not_lt_zero->il,min_eq_left->io,succ_ne_self->jo,le_of_not_lt->jp,toDigits->jR,mod_lt->lL,sub_zero->lZ,lt_or_ge->l4,min_eq_right->mn,le_total->n6,log2_lt->oA
open Nat.succ renaming inj->n5
open Ne renaming symm->cV
open Option renaming some->ae,map_eq_some_iff->dj,isSome_map->iY,isSome_iff_exists->iZ,getD_none->jm,map_some->jQ,isSome_some->lh,none->oz
open Option.some renaming inj->bv,injEq->fO
open Or renaming inr->lX,inl->lY
open Prod.mk renaming injEq->lg
open PyProof renaming noPylong_small->jA
open PyProof.Rows renaming callWith_type1->bN,callWith_builtin1->hG,IntsAre->iI,AllBare->iK,envOfC->iU,subscriptTail->i9,subscriptTail_builtinR->jw,isBoolOf->j8,joinParts_cons->kr,Subscript_->lI,sortedS->mF,entry_list_sort->mL,boot_sorted->nr,seqObj->nP,StrsAre->ox
open PySem renaming wpAny_bind->ac,wpAny_pure->ah,Value->ai,Shared->ak,Addr->ay,starEach->aI,wpAny->aO,model->aV,wpAny_mono->bi,mainGlobals->bq,compareOp->bu,sysModules->bL,mem_of_lookup->bM,sizeLine_eq->bV,Program->bW,wpAny_newObj_type->bX,wpAny_callSpecial?_slot->cz,wpAny_call_entry->cC,codeAny_builtin->cD,wpAny_Call_Name_kw->cF,wpAny_loadPart'->cG,wpAny_truthy_bool->cI,wpAny_holding->cJ,foldedSetIterable->cK,wpAny_field->cO,wpAny_setField->cQ,rawInt->c7,letOwnedTupleGo->c8,Heap->dg,World->dh,wpAny_seqItems->dz,codeAny_mono->dB,wpAny_standAt->dF,Expr->dH,typeIs_str->dI,call_meets->dJ,codeAny->dM,backTo->dN,Builtin->dR,wpAny_askSetting->dX,wpAny_setField_rec->d3,wpAny_attempt->d5,cellsFrom->d8,builtinLookup_eq_fast->d9,attributeBase->eh,binaryOp->eN,wpAny_setState_of->eS,wpAny_passesOwn->eV,IsPair->e9,wpAny_of_eq->fg,plainId_quiet->fh,behindInMarks->fi,wpAny_rule->fk,assignEach->fq,tupleKind_room_in1->fy,pyNext->fA,keywordEach->fD,bootBuiltins->fE,Around->fL,wpAny_pyIter_list->fM,isSubtype_type->fU,firstArgMember->fV,wpAny_isInstance->fZ,strIterType->f8,sliceBounds->f9,wpAny_call->gb,wpAny_specialOf->gB,wpAny_execs_nil->gC,typeLookup_type->gE,wpAny_pyIter_enum->gP,holding->gQ,NameKind->gY,swapsWith->gZ,standAt->hU,wpAny_updateSeq_pair->hZ,codeAny_call_builtin->h7,Scope->ib,wpAny_setEntries_of->ii,scanBound->ij,intKind->ik,wpAny_newFunctionEnv_cells->iu,cLine->iw,backToKw->iA,assign->iB,SetTable->iC,wpAny_getItem_list_slice->iM,wpAny_comprehension_free->iN,wpAny_assign_Name->iO,wpAny_Call_method->iP,slot_list_getitem->iQ,isInstance->iS,getMethod->iT,wpAny_onRaise->i7,valueAt->i8,slicePicked->i',comprehension->jb,pyIter->jl,wpAny_pyNext_range_end->jt,wpAny_pyNext_enum_endD->ju,wpAny_pyIter_rangeiter->jv,codeAny_compStart_list->jx,IsZip->jD,wpAny_updateSeq->jE,wpAny_isTrue_Compare1->jF,tupleKind->jG,theTreesLotGoes->jH,pushCells_keeps->jI,exec_Assign_Name_used->jJ,codeAny_of_tree->jK,codeAny_call_function->jL,call_meetsIn->jM,Draws->j5,sliceRange->j7,Operator->kb,FuncData->ke,wpAny_loadName_local->kg,Stmt->kh,wpAny_runValue->kn,wpAny_loadPart->ko,recursionLimit->kq,isSubtype_stop->kt,Paired->ku,wpAny_loadName_cell->ky,subscripted->kA,setNext->kB,seqIndex_of->kC,hashInt->kD,Keyword->kJ,IsRangeIter->kK,wpAny_pyIter_range->kP,relayAll->kQ,pickOrder->kR,isTrue->kT,evalPart_none->kU,compPost->kW,compEnvC->kX,wpAny_storeSet_of->lz,wpAny_setEpoch_of->lA,wpAny_pyIter_slot->lB,wpAny_load->lC,pushGuards->lD,getItem->lE,fits_of_scanBound->lF,callerA->lG,PlainAttrs->lJ,BindsTo->lT,codeAny_loop->lV,Within->lW,wpAny_pyIter_zip->me,wpAny_getItem_of->mf,wpAny_execs_cons->mh,entryFor_of_tree->mi,checkBuiltinCall->mj,guardIds->my,compTurn->mz,callWith->mB,wpAny_noted->mD,wpAny_letGo->mE,slicePick->mG,seqItems?->mH,pushCells->mI,noteFrame->mJ,newList->mK,DictEntry->mY,wpAny_Name->m9,typeLookup->na,typeIs_int->nb,setsByText->ng,builtinsNs->nh,argsOk->ni,setField->nA,limitOf->nB,entryFor->nC,GenState->nI,CmpOp->nK,updateSeq->nN,storeName->nO,newExc->nQ,inplaceOp->nR,field->nU,drawOrder->nV,atKey->nW,again->nX,Result->nZ,IsEnum->n9,spliced->og,setItem->oh,relabel->oi,collect->oj,bindL->om,bindC->oo,typeOf->oG,fresh->oH,call->oJ
open PySem.Around renaming under_plainId->bU,under->gA,deeper->jk,frames_deeper->km
open PySem.Builtin.Int renaming intBits->kO
open PySem.Builtin.List renaming listExtendWith->fK,listTooLong->gu,listSameRef->i6
open PySem.Builtin.Range renaming rangeSize->cM,small->dy,rangeFitsLong->fJ
open PySem.Builtin.SmallTypes renaming nextOf->cj,ownedTupleIsFree->cX,ownedTupleHandOut->fY
open PySem.Builtin.Str renaming occurrences->cc,strKind->cW,strSub->df,strSliceIndices->fI,subAt->i5,glued->lR
open PySem.Calls renaming spliced_cons->dc,callWith_builtin->dU,evalArgs_plain->eR,spliced_nil->fc,Name_function_global->iz,call_function_entry->iJ
open PySem.Code renaming isGuard->iF,guards->kN,quiet_builtin->lu,isFrame->md,frames->oF
open PySem.Data renaming seq->mC,fields->oE
open PySem.Draws renaming strAscii->m7,list->nv,strWide->nJ
open PySem.F renaming entry_str_split->da,slot_str_split->di,slot_dict_pop->fG,args_str_split_3->ge,args_str_split_2->gg,plainAttrs_dict->gI,slot_dict_get->hB,slot_dict_getitem->iG,args_dict_pop_3->jd,args_dict_get_3->je,entry_dict_pop->jy,entry_dict_get->jz,type_dict_pop->jP
open PySem.Heap renaming get?_push_of_some->af,get?_push_size->aq,lt_size->ax,get?_update_self->bB,SameBut->bC,size_push->bK,get?_update_other->bO,ExtBut->jh,FlyingW->l9
open PySem.Heap.IsSliceOf renaming new->lm
open PySem.Heap.SameBut renaming update->cA
open PySem.IsRange renaming new->oB
open PySem.MeetsSeq3 renaming plain_eq_loop->ja
open PySem.NameKind renaming cell->bz,free->db
open PySem.Obj renaming data_mapFields->bY,isFreed_of_fields->cZ,cls_mapFields->fP,mapSeq->gh,mapFields->ie,putSet->lK
open PySem.Paired renaming length->jf,snoc->oy
open PySem.SeqAt renaming EqAt->nk
open PySem.SeqAt.EqAt renaming str_int->lc,int_str->lf
open PySem.SetTable renaming below->cy,grown->fu,insertAt->iX,orStandIn->k9,advance->ml,laid->nG
open PySem.SetTable.below renaming go->fN
open PySem.SetTable.probe renaming go->iW
open PySem.Shared renaming TypeIs->nF
open PySem.Str renaming empty->cR,ofString->fF,ofString->iD,join->k8
open PySem.StrLaws renaming occBody->c9,partsFrom->iV,found_one->jc,glued_eq_join->jO
open PySem.Txt renaming splitMax->jN,partition->kZ,split->nY
open PySem.Value renaming ref->aj,str->cY,none->dr,type->dY,bool->eY,int->fW,builtin->kY,isInt_shape->lH,float->mO,isStrOf->nE,isInt->ou,bytes->ow
open PySem.W renaming Frag->aB,drawn->mM
open PySem.W.WData renaming int->oK
open PySem.W.WShape renaming has->oI
open PySem.Walks renaming dictKeys->m3,list->nj,range->ot
open PySem.pickOrder renaming go->lU
open Sum.inr renaming inj->kE
open True renaming intro->dL
open PySem PySem.Spec PyProof.Rows
variable{XP:(Str->Option ai)->dg->Prop}{C S d p r:ay}{A:fL}{dd:pW}{env:Env}{e tg:dH}{fd:ke}{base h':dg}{lo:Int}{pb:List (ay×Obj)}{L:List hO}{bad ch:List ay}{outer:List Env}{elts es ifs:List dH}{ms ns:hO}{a b nm sel:gk}{own:hE}{us ys:List ai}{M:Model}{c ep i j n t':Nat}{ad:Nat->ay}{f:Nat->Int}{o:Obj}{pos' tpos:Pos}{P prog:bW}{K:aB}{R:nZ->ak->Prop}{scope:ib}{pl:Sem Bool}{t:iC}{st:kh}{qual x:Str}{kindOf:Str->Option gY}{mg:Str->Option ai}{α:Type}{E Q:ai->ak->Prop}{w:dh}
namespace Lake
abbrev Key:=Sum Int Str
def D9:Key->ai->Bool
 | .inl k,v=>ou k v
 | .inr x,v=>nE x v
def Zu(w:dh):Key->Int
 | .inl k=>kD k
 | .inr x=>hashStr w x
theorem CS:∀ {k:Key} {v:ai},D9 k v=aw->(∃i t,k=Sum.inl i/\v=fW i t)\/(∃x t,k=Sum.inr x/\v=cY x t)
 | .inl i,v,h=>by
   obtain⟨t,e⟩:=lH (k:=i) (v:=v) h;exact .inl ⟨i,t,rfl,e⟩
 | .inr x,v,h=>by
   obtain⟨t,e⟩:=Value.isStrOf_shape (x:=x) (v:=v) h;exact .inr ⟨x,t,rfl,e⟩
def Sq(i:Int)(t:Tok):D9 (.inl i) (.int i t)=aw:=by simp[D9,ou]
def Gz(x:Str)(t:Tok):D9 (.inr x) (.str x t)=aw:=by simp[D9,nE]
def YL(a b:Int):decide ((Sum.inl a:Key)=Sum.inl b)=(a==b):=by
 by_cases e:a=b
 .subst e;simp
 .have h:¬ (Sum.inl a:Key)=Sum.inl b:=λq=>e (Sum.inl.inj q);rw[ba h];exact(dq.mpr e).symm
def YI(a b:Str):decide ((Sum.inr a:Key)=Sum.inr b)=decide (a=b):=by
 by_cases e:a=b
 .subst e;simp
 .have h:¬ (Sum.inr a:Key)=Sum.inr b:=λq=>e (kE q);rw[ba h,ba e]
def YK(a:Int)(b:Str):decide ((Sum.inl a:Key)=Sum.inr b)=au:=ba (λq=>nomatch q)
def YJ(a:Str)(b:Int):decide ((Sum.inr a:Key)=Sum.inl b)=au:=ba (λq=>nomatch q)
def An(prog:bW)(w:dh):PySem.KeyKind prog w Key where
 is:=D9
 hash:=Zu w
 inj:=λv a b G B=>by
  rcases CS G with⟨i,t,rfl,rfl⟩|⟨x,t,rfl,rfl⟩
  .rcases CS B with⟨j,u,rfl,e⟩|⟨y,u,rfl,e⟩
   .injection e with d _;rw[d]
   .exact nomatch e
  .rcases CS B with⟨j,u,rfl,e⟩|⟨y,u,rfl,e⟩
   .exact nomatch e
   .injection e with d _;rw[d]
 byValue:=λk v h=>by
  rcases CS h with⟨i,t,rfl,rfl⟩|⟨x,t,rfl,rfl⟩<;>rfl
 pyHash:=λz h=>by
  rcases CS z with⟨i,t,rfl,rfl⟩|⟨x,t,rfl,rfl⟩
  .exact wpAny_pyHash_int h
  .exact wpAny_pyHash_str h
 eqBool:=λH z h=>by
  rcases CS H with⟨i,t,rfl,rfl⟩|⟨x,t,rfl,rfl⟩
  .rcases CS z with⟨j,u,rfl,rfl⟩|⟨y,u,rfl,rfl⟩
   .rw[YL]at h;exact wpAny_eqBool_int h
   .rw[YK]at h;exact lf i t y u _ _ _ _ h
  .rcases CS z with⟨j,u,rfl,rfl⟩|⟨y,u,rfl,rfl⟩
   .rw[YJ]at h;exact lc x t j u _ _ _ _ h
   .rw[YI]at h;exact wpAny_eqBool_str h
 «strs»:=λk x t v h=>by
  rcases CS h with⟨i,u,rfl,e⟩|⟨y,u,rfl,e⟩
  .exact nomatch e
  .injection e with d _
   subst d
   cases v<;>rfl
def Q5(prog:bW)(w:dh)(i:Int)(t:Tok):(An prog w).is (.inl i) (.int i t)=aw:=Sq i t
def Q4(prog:bW)(w:dh)(x:Str)(t:Tok):(An prog w).is (.inr x) (.str x t)=aw:=Gz x t
set_option genInjectivity true in
inductive V where
 |d|c (b:Bool)|a (i:Int)|e (x:Str)|f (b:Array UInt8)|g (b:UInt64)|b (a:ay)|h (n:String)
 deriving DecidableEq
abbrev gr:=List V
def RelV:V->ai->Prop
 | .d,u=>u=dr
 | .c b,u=>u=eY b
 | .a i,u=>∃t,u=fW i t
 | .e x,u=>∃t,u=cY x t
 | .f b,u=>∃t,u=ow b t
 | .g b,u=>∃t,u=mO b t
 | .b a,u=>u=aj a
 | .h n,u=>u=dY n
abbrev Vals:gr->List ai->Prop:=ku RelV
def Vals.J{xs:gr}(r:Vals xs us):xs.length=us.length:=jf r
theorem Vals.ld:∀ {b:gr} {us:List ai} {i:Nat} {x:V},Vals b us->b[i]? =ae x->∃u,us[i]? =ae u/\RelV x u
 |_,_,_,_, .nil,e=>by simp at e
 |_,_,0,_, .cons r _,e=>by simp at e;subst e;exact⟨_,rfl,r⟩
 |_,_,i+1,x, .cons _ t,e=>by
  obtain⟨u,d,j⟩:=Vals.ld (i:=i) (x:=x) t (by simpa using e);exact⟨u,by simpa using d,j⟩
theorem Vals.set{x:V}{u:ai}(r:RelV x u):∀ {b:gr} {d:List ai} (i:Nat),Vals b d->Vals (b.set i x) (d.set i u)
 |_,_,_, .nil=> .nil
 |_,_,0, .cons _ t=> .cons r t
 |_,_,i+1, .cons q t=> .cons q (Vals.set r i t)
theorem Vals.ap{b d:gr}{us ws:List ai}(h:Vals b us)(s:Vals d ws):Vals (b++d) (us++ws):=by
 induction h with
 |nil=>exact s
 |cons r t i=>exact .cons r i
theorem Vals.mt:∀ {b:gr} {d:List ai} (n:Nat),Vals b d->Vals (b.take n) (d.take n)
 |_,_,0,_=> .nil
 |_,_,_+1, .nil=> .nil
 |_,_,n+1, .cons r t=> .cons r (Vals.mt n t)
theorem Vals.drop:∀ {b:gr} {d:List ai} (n:Nat),Vals b d->Vals (b.drop n) (d.drop n)
 |_,_,0,r=>r
 |_,_,_+1, .nil=> .nil
 |_,_,n+1, .cons _ t=>Vals.drop n t
def ql:Option V->Option ai->Prop
 |some v,ae u=>RelV v u
 |none,none=>True
 |_,_=>False
def KV{g:Type}:List (g×V)->List (g×ai)->Prop:=ku fun(p:g×V) (q:g×ai)=>p.1=q.1/\RelV p.2 q.2
def kV:Key->V
 | .inl i=> .a i
 | .inr x=> .e x
inductive HO where
 |a (xs:gr)
 |b (xs:gr)
 |d (ph:List (Key×V))|g (ph:List (List Key×V))
 |i (S:Int->Bool) (n:Nat)
 |c (C dx:ay) (fs:List (Str×V))
 |f (x:ay)
 |m (fs:List (Str×V))
 |j (f x:ay)
 |k (lo hi:Int)
 |e (o:Obj) (u:HO)
 |l (ps:Array ai)
 |h (φ:dg->Prop)
abbrev Hp:=ay->Option HO
end Lake
variable{H H' H1:Hp}{ph:List (Key×V)}{vs xs:gr}
namespace Lake
section
variable{a b:ay}{o:HO}
def upd(H:Hp)(a:ay)(o:HO):Hp:=λb=>if b=a then ae o else H b
def AF:upd H a o a=ae o:=by unfold upd;rw[aU rfl]
def AG(h:b≠a):upd H a o b=H b:=by unfold upd;rw[aP h]
set_option tactic.hygienic true in
def VB{u:HO}:upd (upd H a o) a u=upd H a u:=by
 funext b;unfold upd;split<;>rfl
def qN{u:HO}(h:H a=ae o)(h':H b=ae u)(d:o≠u):a≠b:=by
 intro e;subst e;rw[h]at h';exact d (bv h')
def AQ(h:H a=ae o)(h':H b=none):a≠b:=by
 intro e;subst e;rw[h]at h';cases h'
section
variable(P:bW)(w:dh)
def pE(H:Hp)(h:dg)(a:ay):HO->Prop
 | .a d=>d.length<=sizeLine/\∃ (b:List ai) (n:Nat),Vals d b/\h.get? a=ae {cls:= .type "list",data:= .seq b.toArray n}
 | .b d=>d.length<=sizeLine/\∃b:List ai,Vals d b/\IsTup h a b.toArray
 | .d ph=>ph.length<=sizeLine/\(a==bL)=au/\∃vs,KV ph vs/\h.DictOf (An P w) a vs
 | .g ph=>ph.length<=sizeLine/\(a==bL)=au/\∃d:List (List Key×ay×ai),
     ku (fun(p:List Key×V) (q:List Key×ay×ai)=>p.1=q.1/\H q.2.1=ae (.b (p.1.map kV))/\RelV p.2 q.2.2) ph d/\
     ∃o j B,h.get? a=ae o/\o.ExactDict/\o.data= .dict j B/\j.toList=d.map (entryOfKey (jG (An P w)))/\(d.map (·.1)).Nodup
 | .i S n=>h.SetOf (ik P w) a S n
 | .c C i fs=>H i=ae (.f a)/\fs.length<=1000/\i≠a/\h.get? a=ae (W.instObj C i)/\
     ∃e,h.Ns1 i e/\(∀f,ql (fs.lookup f) (e f))/\lW e (fs.map (·.1))
 | .f _=>∃o,h.get? a=ae o
 | .m fs=>∃e,h.Ns1 a e/\∀f,ql (fs.lookup f) (e f)
 | .k lo k=>∃t u v,h.get? a=ae {cls:= .type "range",data:= .fields #[.int lo t, .int k u, .int 1 v]}
 | .e o u=>h.get? a=ae o/\pE H h a u
 | .l g=>h.get? a=ae {cls:= .none,data:= .fields g}
 | .j f x=>h.get? a=ae (W.methodObj (.ref f) (.ref x))
 | .h c=>c h/\(∃o,h.get? a=ae o)/\∀y z:dg,c y->(∀o,y.get? a=ae o->z.get? a=ae o)->c z
structure qG (H:Hp) (h:dg):Prop where
 e:∀a o,H a=ae o->pE P w H h a o
 c:∀o,H bL=ae o->∃ob u,o= .e ob u
 d:∃b o,1<b/\h.get? b=ae o
instance (H:Hp) (h:dg):CoeFun (qG P w H h) λ_=>∀a o,H a=ae o->pE P w H h a o:=⟨qG.e⟩
end
section
variable{h:dg}
theorem pE.lt(x:pE P w H h a o):a<h.objs.size:=by
 cases o with
 |a b=>obtain⟨_,_,_,_,e⟩:=x;exact ax e
 |b b=>obtain⟨_,_,_,p⟩:=x;exact p.lt
 |d c=>obtain⟨_,_,_,_,o,_,_,e,_⟩:=x;exact ax e
 |g c=>obtain⟨_,_,_,_,o,_,_,e,_⟩:=x;exact ax e
 |i S n=>obtain⟨o,_,_,_,e,_⟩:=x;exact ax e
 |c C d g=>obtain⟨_,_,_,e,_⟩:=x;exact ax e
 |f y=>obtain⟨_,e⟩:=x;exact ax e
 |m g=>obtain⟨_,⟨_,_,_,e,_⟩,_⟩:=x;exact ax e
 |k l m=>obtain⟨_,_,_,e⟩:=x;exact ax e
 |e k u=>obtain⟨e,_⟩:=x;exact ax e
 |l j=>exact ax (show h.get? a=ae _ from x)
 |j f y=>exact ax (show h.get? a=ae _ from x)
 |h i=>obtain⟨_,⟨_,e⟩,_⟩:=x;exact ax e
theorem Paired.J{g:Type}{F G:α->g->Prop}{d:List α}{l₂:List g}(h:ku F d l₂)(f:∀a b,F a b->G a b):ku G d l₂:=by
 induction h with
 |nil=>exact .nil
 |cons r t i=>exact .cons (f _ _ r) i
theorem pE.J(x:pE P w H h a o)(k:∀b u,(b=a\/H b=ae (.f a))->h.get? b=ae u->h'.get? b=ae u)
 (M:∀b,H b=ae (.f a)->H' b=ae (.f a)) (D:∀b G,H b=ae (.b G)->H' b=ae (.b G)):pE P w H' h' a o:=by
 induction o with
 |a G=>obtain⟨z,B,n,r,e⟩:=x;exact⟨z,B,n,r,k _ _ (.inl rfl) e⟩
 |b G=>obtain⟨z,B,r,g,e,c⟩:=x;exact⟨z,B,r,g,k _ _ (.inl rfl) e,c⟩
 |d s=>obtain⟨z,y,m,r,g,i,j,e,c⟩:=x;exact⟨z,y,m,r,g,i,j,k _ _ (.inl rfl) e,c⟩
 |g s=>
  obtain⟨z,y,G,r,g,i,j,e,c⟩:=x;exact⟨z,y,G,Paired.J r λp q z=>⟨z.1,D _ _ z.2.1,z.2.2⟩,g,i,j,k _ _ (.inl rfl) e,c⟩
 |i S n=>obtain⟨g,i,j,t,e,c⟩:=x;exact⟨g,i,j,t,k _ _ (.inl rfl) e,c⟩
 |c C T E=>
  obtain⟨d,z,A,e,I,⟨J,i,j,Q,c⟩,r⟩:=x;exact⟨M _ d,z,A,k _ _ (.inl rfl) e,I,⟨J,i,j,k _ _ (.inr d) Q,c⟩,r⟩
 |f y=>obtain⟨g,e⟩:=x;exact⟨g,k _ _ (.inl rfl) e⟩
 |m E=>obtain⟨I,⟨J,i,j,e,c⟩,r⟩:=x;exact⟨I,⟨J,i,j,k _ _ (.inl rfl) e,c⟩,r⟩
 |k N O=>obtain⟨t,u,v,e⟩:=x;exact⟨t,u,v,k _ _ (.inl rfl) e⟩
 |e g u R=>obtain⟨e,q⟩:=x;exact⟨k _ _ (.inl rfl) e,R q⟩
 |l l=>
  have e:h.get? a=ae {cls:= .none,data:= .fields l}:=x;show h'.get? a=ae {cls:= .none,data:= .fields l};exact k a _ (.inl rfl) e
 |j f y=>
  have e:h.get? a=ae (W.methodObj (.ref f) (.ref y)):=x;show h'.get? a=ae (W.methodObj (.ref f) (.ref y));exact k a _ (.inl rfl) e
 |h K=>obtain⟨p,⟨o,e⟩,L⟩:=x;exact⟨L _ _ p λo q=>k _ _ (.inl rfl) q,⟨o,k _ _ (.inl rfl) e⟩,L⟩
theorem qG.lt(x:qG P w H h)(e:H a=ae o):a<h.objs.size:=(x a o e).lt
def qG.J(x:qG P w H h)(e:h.objs.size<=a):H a=none:=by
 cases q:H a with
 |none=>rfl
 |some u=>exact absurd (aQ (x.lt q) e) (ck _)
def qG.Z(x:qG P w H h)(k:∀b u,h.get? b=ae u->h'.get? b=ae u):qG P w H h':=⟨λa o e=>
 (x a o e).J (λb u _ q=>k b u q) (λ_ q=>q) λ_ _ q=>q,x.c,let⟨b,o,l,e⟩:=x.d;⟨b,o,l,k _ _ e⟩⟩
def qG.ap(x:qG P w H h)(k:∀b u,h.get? b=ae u->h'.get? b=ae u)(i:h.objs.size<=a)(g:pE P w (upd H a o) h' a o):qG P w (upd H a o) h':=by
 refine⟨λb u e=>?_,λu e=>?_,let⟨b,o,l,e⟩:=x.d;⟨b,o,l,k _ _ e⟩⟩
 rotate_left
 .by_cases d:bL=a
  .obtain⟨b,o,l,q⟩:=x.d;exact absurd (eG l (show b<bL from by rw[d];exact aQ (ax q) i)) (ck 1)
  .rw[AG d]at e;exact x.c u e
 have j:=x.J i
 by_cases d:b=a
 .subst d;rw[AF]at e;cases e;exact g
 .rw[AG d]at e;exact(x b u e).J (λc v _ q=>k c v q) (λc q=>by rw[AG (AQ q j)];exact q) λc y q=>by rw[AG (AQ q j)];exact q
end
def Rd(H:Hp)(a:ay)(u:HO):Prop:=H a=ae u\/∃o,H a=ae (.e o u)
def Rd.J{h:dg}{u:HO}(r:Rd H a u)(x:qG P w H h):pE P w H h a u:=by
 rcases r with r|⟨o,r⟩
 .exact x a u r
 .obtain⟨_,q⟩:=x a _ r;exact q
def xP:Option HO->Prop
 |some (.a _)=>True
 |some (.d _)=>True
 |some (.g _)=>True
 |some (.i _ _)=>True
 |some (.c _ _ _)=>True
 |some (.h _)=>True
 |_=>False
section
variable{h:dg}{x e:ay}{o':HO}
def qG.ld(ok:qG P w H h)(j:xP (H x))(M:e=x\/H e=ae (.f x))(k:∀b u,b≠e->h.get? b=ae u->h'.get? b=ae u)(G:∃u,h'.get? e=ae u)
 (g:pE P w (upd H x o') h' x o'):qG P w (upd H x o') h':=by
 refine⟨λb u q=>?_,λu q=>?_,?_⟩
 rotate_left
 .by_cases d:bL=x
  .exfalso;subst d
   cases z:H bL with
   |none=>rw[z]at j;exact j
   |some o=>
    obtain⟨a,v,rfl⟩:=ok.c o z;rw[z]at j;exact j
  .rw[AG d]at q;exact ok.c u q
 .obtain⟨b,o,l,z⟩:=ok.d
  by_cases d:b=e
  .obtain⟨v,L⟩:=G;exact⟨e,v,d▸l,L⟩
  .exact⟨b,o,l,k b o d z⟩
 have B:∀c y,H c=ae (.f y)->c≠x:=λc y r z=>by subst z;rw[r]at j;exact j
 have I:∀c J,H c=ae (.b J)->c≠x:=λc J r z=>by subst z;rw[r]at j;exact j
 by_cases d:b=x
 .subst d;rw[AF]at q;cases q;exact g
 .rw[AG d]at q
  by_cases i:b=e
  .have Q:H b=ae (.f x):=by
    rcases M with z|z
    .exact absurd (i.trans z) d
    .rw[i];exact z
   rw[q]at Q;cases Q;obtain⟨v,L⟩:=G;exact⟨v,by rw[i];exact L⟩
  .refine(ok b u q).J (λc v hc r=>k c v ?_ r) (λc r=>by rw[AG (B c b r)];exact r) λc J r=>by rw[AG (I c J r)];exact r
   rcases hc with rfl|hc
   .exact i
   .rintro rfl;rcases M with z|z
    .exact B c b hc z
    .rw[hc]at z;cases z;exact d rfl
end
structure Un (fs ex:List ay) (H H':Hp) (h h':dg):Prop where
 i:∀b o,h.get? b=ae o->H b=none->b∉fs->b∉ex->h'.get? b=ae o
 g:∀b o,h.get? b=ae o->H b=none->b∈fs->b∉ex->∃sl,h'.get? b=ae {o with slots:=sl}
 a:∀b o,h.get? b=ae o->H b=none->b∉ex->H' b=none
 f:∀b o,h.get? b=ae o->b∉ex->∃o',h'.get? b=ae o'
 d:∀b xs,H b=ae (.b xs)->H' b=ae (.b xs)
 c:∀b o u,H b=ae (.e o u)->H' b=ae (.e o u)
 e:∀b ps,H b=ae (.l ps)->∃more,H' b=ae (.l (ps++more))
section
variable{fs fs' ex ex':List ay}{H2:Hp}{h h1 h2:dg}{x e:ay}
def Un.ap(u:Un fs ex H H1 h h1){ob:Obj}(q:h.get? b=ae ob)(n:H b=none)(d:b∉ex):∃j,h1.get? b=ae {ob with slots:=j}:=by
 by_cases i:b∈fs
 .exact u.g b ob q n i d
 .exact⟨ob.slots,u.i b ob q n i d⟩
def Un.J(k:∀b u,h.get? b=ae u->h'.get? b=ae u):Un fs ex H H h h':=
 ⟨λb ob q _ _ _=>k b ob q,λb ob q _ _ _=>⟨ob.slots,k b ob q⟩,λ_ _ _ n _=>n,λb ob q _=>⟨ob,k b ob q⟩,λ_ _ q=>q,λ_ _ _ q=>q,λ_ a q=>⟨#[],by rw[q];simp⟩⟩
def Un.mp:Un fs ex H H h h:=Un.J λ_ _ q=>q
def Un.Z(k:∀b u,h.get? b=ae u->h'.get? b=ae u)(i:h.objs.size<=a)(d:H a=none):Un fs ex H (upd H a o) h h' where
 i:=λb u q _ _ _=>k b u q
 g:=λb u q _ _ _=>⟨u.slots,k b u q⟩
 a:=λb u q n _=>by rw[AG (aT (aQ (ax q) i))];exact n
 f:=λb u q _=>⟨u,k b u q⟩
 d:=λb j q=>by rw[AG (AQ q d)];exact q
 c:=λb u j q=>by rw[AG (AQ q d)];exact q
 e:=λb c q=>⟨#[],by rw[AG (AQ q d),q];simp⟩
def Un.ld(i:xP (H x))(I:e=x\/H e=ae (.f x))(k:∀b u,b≠e->h.get? b=ae u->h'.get? b=ae u)(j:∃u,h'.get? e=ae u):Un fs ex H (upd H x o) h h':=by
 have B:∀b,H b=none->b≠x:=λb n z=>by subst z;rw[n]at i;exact i
 have G:∀b,H b=none->b≠e:=λb n z=>by
  subst z;rcases I with r|r
  .exact B b n r
  .rw[n]at r;cases r
 have y:∀b u,H b=ae u->¬xP (ae u)->b≠x:=λb u q J z=>by subst z;rw[q]at i;exact J i
 refine⟨λb u q n _ _=>k b u (G b n) q,λb u q n _ _=>⟨u.slots,k b u (G b n) q⟩,λb u q n _=>by rw[AG (B b n)];exact n,λb u q _=>?_,
  λb L q=>by rw[AG (y b _ q λz=>z)];exact q,λb u L q=>by rw[AG (y b _ q λz=>z)];exact q,λb a q=>⟨#[],by rw[AG (y b _ q λz=>z),q];simp⟩⟩
 by_cases d:b=e
 .subst d;exact j
 .exact⟨u,k b u d q⟩
end
def xX(h:dg)(H:Hp):List Addr:=(aH h.objs.size).filter λa=>(H a).isSome
def C0(h:dg)(H:Hp):dg:=W.hideAll h (xX h H)
def S3(h:dg)(H:Hp):(C0 h H).objs.size=h.objs.size:=W.hideAll_size _ _
def Ur{h:dg}{o:Obj}(e:h.get? b=ae o)(n:H b=none):(C0 h H).get? b=ae o:=
 W.hideAll_get _ e λd=>by
  have q:(H b).isSome=aw:=(jV.mp d).2;rw[n]at q;simp at q
def WB{h:dg}{o:Obj}(e:(C0 h H).get? b=ae o):h.get? b=ae o/\H b=none:=by
 have d:h.get? b=ae o:=W.of_hideAll (xX h H) e;refine⟨d,?_⟩
 cases q:H b with
 |none=>rfl
 |some x=>
  have i:b∈xX h H:=List.mem_filter.mpr ⟨bR.mpr (ax d),by simp[q]⟩;have z:(C0 h H).get? b=none:=W.hideAll_none (xX h H) i;rw[z]at e;cases e
structure Mod (K:aB) (mg:Str->Option ai) (base:dg):Prop where
 b:K.In base
 a:base.Ns bq mg
 d:∃mb,base.Ns nh mb/\∀x:Str,x≠"__name__"->mb x=fE x
 c:base.NoLimit
structure Cx where
 d:bW
 w:dh
 K:aB
 h:Str->Option ai
 f:dg
 A:fL
 N:hE
 j:ak
 l:Hp
 a:Env
 g:List Env
 e:List Env
 k:List ay
 i:Str->Bool
 calm:Bool
 pn:List (ay×Obj)
 xe:ai->ak->Prop
end
end Lake
variable{X:Cx}
namespace Lake
section
variable{a:ay}{g':Array nI}{d':Drawn}{o:HO}{pins':List (ay×Obj)}{O σ':List (Option V)}{Q:Unit->ak->Prop}
def rg(l:List Env):List Addr:=l.filterMap (·.frame)
abbrev Cx.J(X:Cx):List Addr:=rg X.g
def xa(b:ib)(x:Str):Prop:=b.names.lookup x=ae .local\/b.names.lookup x=ae .cell\/b.names.lookup x=ae .free
def Loc(b:ib)(x:Str):Prop:=b.names.lookup x=ae .local\/b.names.lookup x=ae .cell
def Look(env:Env)(h:dg)(m:Str->Option ai)(x:Str)(u:ai):Prop:=
 (env.kindOf x=ae .local/\m x=ae u)\/((env.kindOf x=ae .cell\/env.kindOf x=ae .free)/\∃c,env.cells.lookup x=ae c/\h.IsCell c (ae u))
structure Cx.Z (X:Cx):Prop where
 f:Mod X.K X.h X.f
 a:X.a.scope.kind= .function
 g:X.a.globals=bq
 l:X.a.builtins=nh
 d:X.j.heap.objs.size<=X.a.locals
 q:∀x y c,X.a.cells.lookup x=ae c->X.a.cells.lookup y=ae c->x=y
 r:∀x,(X.a.kindOf x=ae .cell\/X.a.kindOf x=ae .free)->∃c,X.a.cells.lookup x=ae c
 p:∀x c,X.i x=aw->X.a.cells.lookup x=ae c->X.j.heap.objs.size<=c
 k:X.calm=aw->X.A.handled=none
 e:X.A.frames=ae X.e
 m:X.e=X.g\/(X.e=X.a::X.g/\X.a.frame=ae X.a.locals)
 t:∀b∈X.k,b≠X.a.locals/\∀x c,X.a.cells.lookup x=ae c->c≠b
 v:∀b o,X.f.get? b=ae o->X.j.heap.get? b=ae o/\X.l b=none
 h:X.f.objs.size<=X.j.heap.objs.size
 i:∀b o,X.f.get? b=ae o->b∉X.k
 j:∀b∈X.k,b∉X.J
 u:X.j.heap.FunFrames X.f X.g
 n:∀b∈X.J,X.l b=none
structure Inv (X:Cx) (pb:List (ay×Obj)) (O:List (Option V)) (H:Hp) (s:ak):Prop where
 e:X.Z
 n:s.os=X.j.os
 d:iK s.gens
 b:Un X.J X.k X.l H X.j.heap s.heap
 j:∃m,s.heap.Ns X.a.locals m/\∀ (i:Nat) (x:Str) (v:V),X.N[i]? =ae x->O[i]? =ae (ae v)->xa X.a.scope x->∃u,RelV v u/\Look X.a s.heap m x u
 h:∀x c,X.a.cells.lookup x=ae c->∃v,s.heap.IsCell c v
 g:H X.a.locals=none
 f:∀x c,X.a.cells.lookup x=ae c->H c=none
 k:∀p∈X.pn++pb,s.heap.get? p.1=ae p.2/\H p.1=none/\p.1≠X.a.locals/\p.1∉X.J/\∀v,p.2.data≠ .cell v
 a:qG X.d X.w H s.heap
 l:O.length=X.N.length
section
variable{s:ak}
def Cx.Z.yA(g:X.Z){b:ay}{o:Obj}(e:X.f.get? b=ae o):b∉X.J:=λd=>by
 have:=(g.u.mem d).1;rw[e]at this;cases this
def Inv.bs(I:Inv X pb O H s):∀b o,X.f.get? b=ae o->s.heap.get? b=ae o/\H b=none:=λb o e=>
 ⟨I.b.i b o (I.e.v b o e).1 (I.e.v b o e).2 (I.e.yA e) (I.e.i b o e),I.b.a b o (I.e.v b o e).1 (I.e.v b o e).2 (I.e.i b o e)⟩
def Inv.bk(I:Inv X pb O H s):∀b o,X.f.get? b=ae o->s.heap.get? b=ae o:=λb o e=>(I.bs b o e).1
def Inv.mod(I:Inv X pb O H s):Mod X.K X.h X.f:=I.e.f
def Inv.qB(I:Inv X pb O H s):X.K.In s.heap:=I.e.f.b.keeps I.bk
theorem Inv.lt(I:Inv X pb O H s):X.a.locals<s.1.1.size:=let⟨_,b,_⟩:=I.j;b.lt
def Inv.sz(I:Inv X pb O H s):X.j.heap.objs.size<=s.1.1.size:=bw I.e.d (bZ I.lt)
def Inv.yz(I:Inv X pb O H s)(h:s.1.1.size<=a):a∉X.J:=λb=>by
 obtain⟨_,o,d,_⟩:=I.e.u.mem b;exact absurd (aQ (ax d) (bw I.sz h)) (ck _)
def Inv.v9(I:Inv X pb O H s):∀x c,X.a.cells.lookup x=ae c->c≠X.a.locals:=λx c e z=>by
 obtain⟨v,o,i,a⟩:=I.h x c e;obtain⟨m,⟨j,y,B,b,d,_⟩,_⟩:=I.j;rw[z,b]at i;cases i;rw[d]at a;cases a
def Inv.qL(I:Inv X pb O H s):s.heap.FunFrames X.f X.g:=by
 have a:∀ (l:List Env),(∀b∈rg l,b∈X.J)->X.j.heap.FunFrames X.f l->s.heap.FunFrames X.f l:=by
  intro l
  induction l with
  |nil=>intro _ _;trivial
  |cons f r y=>
   intro x B;obtain⟨hk,⟨L,o,d,G,J,c⟩,M⟩:=B;have i:L∈X.J:=x L (by unfold rg;rw[dQ,d];exact aG);obtain⟨P,e⟩:=I.b.g L o J (I.e.n L i) i λz=>I.e.j L z i;exact⟨hk,⟨L,_,d,G,e,c⟩,y (λb j=>x b (by unfold rg;rw[dQ,d];exact aM _ j)) M⟩
 exact a X.g (λ_ j=>j) I.e.u
def Inv.stack(I:Inv X pb O H s):s.heap.FunFrames X.f X.e:=by
 rcases I.e.m with e|⟨e,b⟩
 .rw[e];exact I.qL
 .rw[e];obtain⟨m,d,_⟩:=I.j;refine .cons (by rw[I.e.a];decide) b d ?_ I.qL;exact Heap.get?_none_of_le (bw I.e.h I.e.d)
def Inv.qO(I:Inv X pb O H s):∀b∈rg X.e,b∈X.a.locals::X.J:=λb d=>by
 rcases I.e.m with e|⟨e,i⟩
 .rw[e]at d;exact aM _ d
 .rw[e]at d;unfold rg at d;rw[dQ,i]at d;exact d
def Inv.qH(I:Inv X pb O H s):∀b∈rg X.e,H b=none:=λb hb=>by
 rcases aL.mp (I.qO b hb)with e|hb
 .rw[e];exact I.g
 .obtain⟨_,o,d,_⟩:=I.e.u.mem hb;exact I.b.a b o d (I.e.n b hb) λz=>I.e.j b z hb
def Inv.step(I:Inv X pb O H s)
 (y:∀b∈ch,(b∈X.k\/X.j.heap.objs.size<=b)/\b≠X.a.locals/\(∀x c,X.a.cells.lookup x=ae c->c≠b)/\∀p∈X.pn++pb,p.1≠b)
 (h:∀b o,b≠X.a.locals->b∉X.J->b∉ch->s.heap.get? b=ae o->H b=none->h'.get? b=ae o)
 (D:∀b o,b≠X.a.locals->b∈X.J->b∉ch->s.heap.get? b=ae o->H b=none->∃T,h'.get? b=ae {o with slots:=T}) (g:∀b o,b∉ch->s.heap.get? b=ae o->H b=none->H' b=none)
 (N:∀b o,b∉ch->s.heap.get? b=ae o->∃Q,h'.get? b=ae Q)
 (σ:∀b L,H b=ae (.b L)->H' b=ae (.b L)) (t:∀b o u,H b=ae (.e o u)->H' b=ae (.e o u)) (V:∀b A,H b=ae (.l A)->∃f,H' b=ae (.l (A++f)))
 (ns:∀m,s.heap.Ns X.a.locals m->h'.Ns X.a.locals m) (C:qG X.d X.w H' h') (hg:iK g'):
 Inv X pb O H' {s with heap:=h',gens:=g',drawn:=d',toks:=t'}:=by
 have R:∀b o,X.j.heap.get? b=ae o->b≠X.a.locals:=λb o e=>aT (aQ (ax e) I.e.d);have G:∀b o,X.j.heap.get? b=ae o->b∉X.k->b∉ch:=λb o e j M=>by
  rcases(y b M).1 with z|z
  .exact j z
  .exact absurd (aQ (ax e) z) (ck _)
 have a:∀x c,X.a.cells.lookup x=ae c->∀v,s.heap.IsCell c v->h'.IsCell c v:=λx c e v ⟨o,P,E⟩=>by
  have B:c∉ch:=λz=>(y c z).2.2.1 x c e rfl
  by_cases Y:c∈X.J
  .obtain⟨T,q⟩:=D c o (I.v9 x c e) Y B P (I.f x c e);exact⟨_,q,E⟩
  .exact⟨o,h c o (I.v9 x c e) Y B P (I.f x c e),E⟩
 refine⟨I.e,I.n,hg,⟨λb o e n M j=>?_,λb o e n M j=>?_,λb o e n j=>?_,λb o e j=>?_,λb L e=>σ b L (I.b.d b L e),λb o L e=>t b o L (I.b.c b o L e),λb A e=>?_⟩,?_,λx c e=>?_,?_,λx c e=>?_,λp Z=>?_,C,I.l⟩
 .exact h b o (R b o e) M (G b o e j) (I.b.i b o e n M j) (I.b.a b o e n j)
 .obtain⟨T,J⟩:=I.b.g b o e n M j;obtain⟨U,S⟩:=D b _ (R b o e) M (G b o e j) J (I.b.a b o e n j);exact⟨U,S⟩
 .obtain⟨Q,J⟩:=I.b.f b o e j;exact g b Q (G b o e j) J (I.b.a b o e n j)
 .obtain⟨Q,J⟩:=I.b.f b o e j;exact N b Q (G b o e j) J
 .obtain⟨m1,J⟩:=I.b.e b A e;obtain⟨m2,S⟩:=V b _ J;exact⟨m1++m2,by rw[S,lw]⟩
 .obtain⟨m,hn,hl⟩:=I.j;refine⟨m,ns m hn,λi x v J S e3=>?_⟩;obtain⟨u,r,l⟩:=hl i x v J S e3;refine⟨u,r,?_⟩;rcases l with l|⟨k,c,e,z⟩
  .exact .inl l
  .exact .inr ⟨k,c,e,a x c e _ z⟩
 .obtain⟨v,z⟩:=I.h x c e;exact⟨v,a x c e v z⟩
 .obtain⟨m,⟨o,_,_,P,_⟩,_⟩:=I.j;exact g _ o (λz=>(y _ z).2.1 rfl) P I.g
 .obtain⟨v,o,P,E⟩:=I.h x c e;exact g c o (λz=>(y c z).2.2.1 x c e rfl) P (I.f x c e)
 .obtain⟨e,n,ne,K,d⟩:=I.k p Z;have B:p.1∉ch:=λz=>(y p.1 z).2.2.2 p Z rfl;exact⟨h p.1 p.2 ne K B e n,g p.1 p.2 B e n,ne,K,d⟩
def Inv.un(I:Inv X pb O H s)(u:Un X.J [] H H' s.heap h')(g:qG X.d X.w H' h'):Inv X pb O H' {s with heap:=h',toks:=t'}:=by
 obtain⟨m,⟨o,L,M,y,r⟩,_⟩:=id I.j;obtain⟨P,B⟩:=u.ap y I.g b';exact I.step (g':=s.gens) (d':=s.drawn) (ch:=[]) (λ_ z=>nomatch z) (λb o _ i _ e n=>u.i b o e n i b') (λb o _ i _ e n=>u.g b o e n i b') (λb o _ e n=>u.a b o e n b') (λb o _ e=>u.f b o e b') u.d u.c u.e (λQ G=>by
  obtain⟨R,j,x,d,J⟩:=G;rw[y]at d;cases d;exact⟨_,j,x,B,J⟩) g I.d
def Inv.call(I:Inv X pb O H s)(u:Un (rg X.e) ch H H' s.heap h')(g:qG X.d X.w H' h')(h:iK g')
 (i:∀b∈ch,(b∈X.k\/X.j.heap.objs.size<=b)/\b≠X.a.locals/\(∀x c,X.a.cells.lookup x=ae c->c≠b)/\∀p∈X.pn++pb,p.1≠b):
 Inv X pb O H' {s with heap:=h',gens:=g',drawn:=d',toks:=t'}:=by
 obtain⟨m,⟨o,Q,R,J,r⟩,_⟩:=id I.j;obtain⟨S,y⟩:=u.ap J I.g λz=>(i _ z).2.1 rfl;exact I.step (ch:=ch) i (λb o y L d e n=>u.i b o e n (λz=>(aL.mp (I.qO b z)).elim y L) d) (λb o _ _ d e n=>u.ap e n d) (λb o d e n=>u.a b o e n d) (λb o d e=>u.f b o e d) u.d u.c u.e (λT M=>by
  obtain⟨U,B,G,j,P⟩:=M;rw[J]at j;cases j;exact⟨_,B,G,y,P⟩) g h
def Inv.turned{g:ay}(I:Inv X pb O H s)(k:∀b o,b≠g->s.heap.get? b=ae o->h'.get? b=ae o)(B:H g=none)(j:g≠X.a.locals)
 (y:g∈X.k\/X.j.heap.objs.size<=g) (G:∀x c,X.a.cells.lookup x=ae c->c≠g) (J:∀p∈X.pn++pb,p.1≠g):Inv X pb O H {s with heap:=h',toks:=t'}:=by
 have i:∀b u,H b=ae u->b≠g:=λb u e z=>by rw[z,B]at e;cases e
 refine I.step (g':=s.gens) (d':=s.drawn) (ch:=[g]) (λb L=>?_) (λb o _ _ d e _=>k b o (λz=>d (by simp[z])) e) (λb o _ _ d e _=>⟨o.slots,k b o (λz=>d (by simp[z])) e⟩) (λ_ _ _ _ n=>n)
  (λb o d e=>⟨o,k b o (λz=>d (by simp[z])) e⟩) (λ_ _ e=>e) (λ_ _ _ e=>e) (λb a e=>⟨#[],by rw[e];simp⟩) (λm M=>?_) ⟨λb u e=>?_,I.a.c,let⟨o,_,_,e,_⟩:=I.e.f.a;⟨bq,o,by decide,k _ _ (λz=>by
    rcases y with q|q
    .exact I.e.i _ _ e (z▸q)
    .exact absurd (aQ (ax e) (bw I.e.h q)) (by rw[z];exact ck _)) (I.bk _ _ e)⟩⟩ I.d
 .have e:b=g:=by simpa using L
  subst e;exact⟨y,j,G,J⟩
 .obtain⟨o,P,Q,R,r⟩:=M;exact⟨o,P,Q,k _ o (cV j) R,r⟩
 .refine(I.a b u e).J (λc v d q=>k c v ?_ q) (λ_ q=>q) λ_ _ q=>q;rcases d with z|z
  .rw[z];exact i b u e
  .exact i c _ z
def Inv.Z(I:Inv X pb O H s)(t:Nat):Inv X pb O H {s with toks:=t}:=I.un (h':=s.heap) (t':=t) Un.mp I.a
def Inv.ap(I:Inv X pb O H s)(k:∀b u,s.heap.get? b=ae u->h'.get? b=ae u):Inv X pb O H {s with heap:=h',toks:=t'}:=I.un (Un.J k) (I.a.Z k)
def Inv.mp(I:Inv X pb O H s)(k:∀b u,s.heap.get? b=ae u->h'.get? b=ae u)(d:s.1.1.size<=a)(g:pE X.d X.w (upd H a o) h' a o):
 Inv X pb O (upd H a o) {s with heap:=h',toks:=t'}:=I.un (Un.Z k d (I.a.J d)) (I.a.ap k d g)
def Inv.write{x e:ay}(I:Inv X pb O H s)(i:xP (H x))(j:e=x\/H e=ae (.f x))(k:∀b u,b≠e->s.heap.get? b=ae u->h'.get? b=ae u)(d:∃u,h'.get? e=ae u)
 (g:pE X.d X.w (upd H x o) h' x o):Inv X pb O (upd H x o) {s with heap:=h',toks:=t'}:=I.un (Un.ld i j k d) (I.a.ld i j k d g)
def Inv.weak(I:Inv X pb O H s)(d:σ'.length=O.length)(w:∀ (i:Nat) v,σ'[i]? =ae (ae v)->O[i]? =ae (ae v)):Inv X pb σ' H s:=
 ⟨I.e,I.n,I.d,I.b,let⟨m,e,b⟩:=I.j;⟨m,e,λi x v j y z=>b i x v j (w i v y) z⟩,I.h,I.g,I.f,I.k,I.a,d.trans I.l⟩
def Inv.uw(I:Inv X pb O H s)(h:∀p∈pins',s.heap.get? p.1=ae p.2/\H p.1=none/\p.1≠X.a.locals/\p.1∉X.J/\∀v,p.2.data≠ .cell v):Inv X pins' O H s:=
 ⟨I.e,I.n,I.d,I.b,I.j,I.h,I.g,I.f,λp b=>(cS.mp b).elim (λz=>I.k p (cP _ z)) (h p),I.a,I.l⟩
def HQ{N:hE}(d:N.Nodup)(a:N[i]? =ae x)(b:N[j]? =ae x):i=j:=by
 obtain⟨z,e⟩:=aR.mp a;obtain⟨B,y⟩:=aR.mp b;exact(List.getElem_inj d).mp (e.trans y.symm)
def Gw{v:V}{u:ai}(I:Inv X pb O H s)(hN:X.N.Nodup)(σ:X.N[i]? =ae x)(J:Loc X.a.scope x)(r:RelV v u)
 (h:∀s',Inv X pb (O.set i (ae v)) H s'->(∃a,bC a s.heap s'.heap/\(a=X.a.locals\/X.a.cells.lookup x=ae a))->Q () s') (hf:X.i x=aw\/X.a.scope.names.lookup x=ae .local<|>qz):aO M A (nO X.a x u) Q E s:=by
 obtain⟨m,hn,hl⟩:=id I.j;have Z:(X.a.scope.kind== .class||(X.a.scope.kind== .module&&X.a.locals !=X.a.globals))=au:=by rw[I.e.a];rfl
 have S:i<O.length:=by rw[I.l];exact(aR.mp σ).1
 have v9:=I.v9;have f:∀ {a:ay} {g:dg},(∃o,s.heap.get? a=ae o/\H a=none)->bC a s.heap g->(∃t,g.get? a=ae t)->qG X.d X.w H g:=fun{a g} ha B hz=>by
  refine⟨λb ob e=>?_,I.a.c,?_⟩
  rotate_left
  .obtain⟨b,o,l,e⟩:=I.a.d
   by_cases P:b=a
   .obtain⟨v,hv⟩:=hz;exact⟨a,v,P▸l,hv⟩
   .exact⟨b,o,l,(B.2 b P).trans e⟩
  obtain⟨_,_,L⟩:=ha;refine(I.a b ob e).J (λc w' hc q=>(B.2 c ?_).trans q) (λ_ q=>q) λ_ _ q=>q;rintro rfl;rcases hc with rfl|hc
  .rw[L]at e;cases e
  .rw[L]at hc;cases hc
 rcases J with hk|hk
 .refine wpAny_storeName_local hk hn (λg K B=>?_) Z;obtain⟨oL,_,_,a1,_⟩:=id hn;refine h _ ⟨I.e,I.n,I.d,⟨λb o e n P J=>?_,λb o e n P J=>?_,I.b.a,λb o e J=>?_,I.b.d,I.b.c,I.b.e⟩,⟨_,K,λj y v' G R e3=>?_⟩,λy c e=>?_,I.g,I.f,λp hp=>?_,f ⟨oL,a1,I.g⟩ B (let⟨o,_,_,e,_⟩:=K;⟨o,e⟩),by simpa using I.l⟩ ⟨_,B, .inl rfl⟩
  .exact(B.2 b (aT (aQ (ax e) I.e.d))).trans (I.b.i b o e n P J)
  .obtain⟨sl,G⟩:=I.b.g b o e n P J;exact⟨sl,(B.2 b (aT (aQ (ax e) I.e.d))).trans G⟩
  .obtain⟨t,G⟩:=I.b.f b o e J;exact⟨t,(B.2 b (aT (aQ (ax e) I.e.d))).trans G⟩
  .by_cases T:j=i
   .subst T;rw[σ]at G;cases G;rw[fx S]at R
    cases R
    exact⟨u,r, .inl ⟨hk,by simp⟩⟩
   .rw[cm (cV T)]at R;obtain⟨u',r',q⟩:=hl j y v' G R e3;refine⟨u',r',?_⟩;rcases q with⟨k,e⟩|⟨k,c,e,z⟩
    .refine .inl ⟨k,?_⟩;have:y≠x:=λe=>T (HQ hN G (e▸σ));simp[this,e]
    .exact .inr ⟨k,c,e,z.sameBut B (v9 y c e)⟩
  .obtain⟨w',z⟩:=I.h y c e;exact⟨w',z.sameBut B (v9 y c e)⟩
  .obtain⟨e,n,ne,nf,d⟩:=I.k p hp;exact⟨(B.2 p.1 ne).trans e,n,ne,nf,d⟩
 .have U:X.i x=aw:=by
   rcases hf with z|z
   .exact z
   .rw[z]at hk;cases hk
  obtain⟨c,hc⟩:=I.e.r x (.inl hk);obtain⟨w',z⟩:=I.h x c hc;refine wpAny_storeName_cell I.e.a hk hc z (λg Y B=>?_);obtain⟨oc,D,C⟩:=id z;refine h {s with heap:=g} ⟨I.e,I.n,I.d,⟨λb o e n P J=>?_,λb o e n P J=>?_,I.b.a,λb o e J=>?_,I.b.d,I.b.c,I.b.e⟩,⟨m,hn.sameBut B (cV (v9 x c hc)),λj y v' G R e3=>?_⟩,λy c' e=>?_,I.g,I.f,λp hp=>?_,f ⟨oc,D,I.f x c hc⟩ B (let⟨o,e,_⟩:=Y;⟨o,e⟩),by simpa using I.l⟩ ⟨c,B, .inr hc⟩
  .exact(B.2 b (aT (aQ (ax e) (I.e.p x c U hc)))).trans (I.b.i b o e n P J)
  .obtain⟨sl,G⟩:=I.b.g b o e n P J;exact⟨sl,(B.2 b (aT (aQ (ax e) (I.e.p x c U hc)))).trans G⟩
  .obtain⟨t,G⟩:=I.b.f b o e J;exact⟨t,(B.2 b (aT (aQ (ax e) (I.e.p x c U hc)))).trans G⟩
  .by_cases T:j=i
   .subst T;rw[σ]at G;cases G;rw[fx S]at R
    cases R
    exact⟨u,r, .inr ⟨.inl hk,c,hc,Y⟩⟩
   .rw[cm (cV T)]at R;obtain⟨u',r',q⟩:=hl j y v' G R e3;refine⟨u',r',?_⟩;rcases q with q|⟨k,c',e,z'⟩
    .exact .inl q
    .refine .inr ⟨k,c',e,z'.sameBut B ?_⟩;rintro rfl;exact T (HQ hN G (I.e.q _ _ _ e hc▸σ))
  .by_cases a0:c'=c
   .subst a0;exact⟨_,Y⟩
   .obtain⟨w2,z2⟩:=I.h y c' e;exact⟨w2,z2.sameBut B a0⟩
  .obtain⟨e,n,ne,nf,d⟩:=I.k p hp;refine⟨(B.2 p.1 ?_).trans e,n,ne,nf,d⟩;intro q;rw[q,D]at e;have q':oc=p.2:=bv e;exact d w' (by rw[<-q'];exact C)
def FV{v:V}{u:ai}(I:Inv X pb O H s)(d:X.N.Nodup)(g:X.N[i]? =ae x)(e:Loc X.a.scope x)(r:RelV v u)
 (h:∀b,Inv X pb (O.set i (ae v)) H b->Q () b) (j:X.i x=aw\/X.a.scope.names.lookup x=ae .local<|>qz):aO M A (nO X.a x u) Q E s:=
 Gw I d g e r (λb y _=>h b y) j
def Inv.uy{s':ak}(I:Inv X pb O H s)(i:s'.os=s.os)(u:Un (rg X.e) ch H H' s.heap s'.heap)(g:qG X.d X.w H' s'.heap)(h:iK s'.gens)
 (d:∀b∈ch,(b∈X.k\/X.j.heap.objs.size<=b)/\b≠X.a.locals/\(∀x c,X.a.cells.lookup x=ae c->c≠b)/\∀p∈X.pn++pb,p.1≠b):Inv X pb O H' s':=by
 obtain⟨l,f,k,a,j⟩:=s';have e:j=s.os:=i;subst e;exact I.call (g':=f) (t':=a) (d':=k) u g h d
end
abbrev XK:=ai->Option ay->Hp->Prop
abbrev pz:=List (Option V)
abbrev VK:=V->Hp->Prop
abbrev TE:=pz->Hp->VK->Prop
abbrev TT:=pz->Hp->(Bool->Hp->Prop)->Prop
abbrev TA:=pz->Hp->(gr->Hp->Prop)->Prop
structure Ends where
 nx:pz->Hp->Prop
 a:VK
 c:pz->Hp->Prop:=λ_ _=>False
 b:pz->Hp->Prop:=λ_ _=>False
abbrev TS:=Ends->pz->Hp->Prop
end
end Lake
variable{D:Ends}{trs:List (TE×TE)}{ta te:TE}{tb:TS}{tt:TT}
namespace Lake
section
variable{c:dH}{rest:List dH}{body st:List kh}{t:TE}{tc:TT}{x:V}{tget:V->V->Hp->VK->Prop}
def EP(X:Cx)(pb:List (ay×Obj))(O:pz)(Q:VK)(u:ai)(d:ak):Prop:=∃v b,Inv X pb O b d/\RelV v u/\Q v b
def TP(X:Cx)(pb:List (ay×Obj))(O:pz)(Q:Bool->Hp->Prop)(b:Bool)(e:ak):Prop:=∃d,Inv X pb O d e/\Q b d
def AP(X:Cx)(pb:List (ay×Obj))(O:pz)(Q:gr->Hp->Prop)(us:List ai)(d:ak):Prop:=∃vs b,Inv X pb O b d/\Vals vs us/\Q vs b
def SP(X:Cx)(pb:List (ay×Obj))(D:Ends)(f:Flow)(d:ak):Prop:=
 match f with
 | .next=>∃a b,Inv X pb a b d/\D.nx a b
 | .brk=>∃a b,Inv X pb a b d/\D.c a b
 | .cont=>∃a b,Inv X pb a b d/\D.b a b
 | .ret u=>∃v a b,Inv X pb a b d/\RelV v u/\D.a v b
def PE(X:Cx)(e:dH)(t:TE):Prop:=
 ∀ (pb:List (ay×Obj)) (s:ak) (a:pz) (H:Hp) (Q:VK),Inv X pb a H s->t a H Q->aO (aV X.d X.w) X.A (eval e X.a) (EP X pb a Q) X.xe s
def PT(X:Cx)(e:dH)(t:TT):Prop:=
 ∀ (pb:List (ay×Obj)) (s:ak) (a:pz) (H:Hp) (Q:Bool->Hp->Prop),Inv X pb a H s->t a H Q->aO (aV X.d X.w) X.A (kT e X.a (eval e X.a)) (TP X pb a Q) X.xe s
def PW(X:Cx)(e:dH)(t:TT):Prop:=
 ∀ (a:Sem ai) (pb:List (ay×Obj)) (s:ak) (b:pz) (H:Hp) (Q:Bool->Hp->Prop),Inv X pb b H s->t b H Q->aO (aV X.d X.w) X.A (kT e X.a a) (TP X pb b Q) X.xe s
def PW.J{t:TT}(h:PW X e t):PT X e t:=h _
def PA(X:Cx)(b:List dH)(t:TA):Prop:=
 ∀ (c:Pos) (pb:List (ay×Obj)) (s:ak) (a:pz) (H:Hp) (Q:gr->Hp->Prop),Inv X pb a H s->t a H Q->aO (aV X.d X.w) X.A (og (dN c (aI b X.a))) (AP X pb a Q) X.xe s
def PS(X:Cx)(st:kh)(t:TS):Prop:=
 ∀ (pb:List (ay×Obj)) (s:ak) (a:pz) (H:Hp) (D:Ends),Inv X pb a H s->t D a H->aO (aV X.d X.w) X.A (exec st X.a) (SP X pb D) X.xe s
def rm(X:Cx)(st:List kh)(t:TS):Prop:=
 ∀ (pb:List (ay×Obj)) (s:ak) (a:pz) (H:Hp) (D:Ends),Inv X pb a H s->t D a H->aO (aV X.d X.w) X.A (execs st X.a) (SP X pb D) X.xe s
def pB{t:Sem α}{Q g:α->ak->Prop}{s:ak}(h:aO M A t Q E s)(b:∀a s,Q a s->g a s):aO M A t g E s:=bi h b λ_ _ x=>x
def zz{t:Sem ai}{g:ai->ak->Prop}{s:ak}{Q:VK}(h:aO M A t (EP X pb O Q) E s)(k:∀u d x b,Inv X pb O b d->RelV x u->Q x b->g u d):aO M A t g E s:=pB h λu d ⟨x,b,i,r,q⟩=>k u d x b i r q
def zQ{t:Sem (List ai)}{g:List ai->ak->Prop}{s:ak}{Q:gr->Hp->Prop}(h:aO M A t (AP X pb O Q) E s)(k:∀u d x b,Inv X pb O b d->Vals x u->Q x b->g u d):aO M A t g E s:=pB h λu d ⟨x,b,i,r,q⟩=>k u d x b i r q
section
def Bx(i:Nat):TE:=λa H Q=>∃v,a[i]? =ae (ae v)/\Q v H
def tC(v:V):TE:=λ_ H Q=>Q v H
def Ng{x:Str}{pos:Pos}(d:X.N[i]? =ae x)(j:xa X.a.scope x)(g:qq x<|>pu)(b:(x==("__classdict__":Str))=au<|>pu):PE X (.Name x pos) (Bx i):=by
 intro o s n H Q I h;obtain⟨v,e,h⟩:=h;obtain⟨m,y,z⟩:=I.j;obtain⟨u,r,l⟩:=z i x v d e j;have f:EP X o n Q u s:=⟨v,H,I,r,h⟩;rcases l with⟨hk,p⟩|⟨hk,c,k,a⟩
 .exact m9 (kg I.e.a hk y p f) g
 .rcases hk with hk|hk
  .exact m9 (ky I.e.a hk k a f) g
  .exact m9 (wpAny_loadName_free I.e.a hk k a f b) g
def AC{i j pos}:PE X (.Constant (.int i) j pos) (tC (.a i)):=λ_ _ _ H _ I h=>wpAny_Constant_int ⟨.a i,H,I.Z _,⟨_,rfl⟩,h⟩
def Cz{b j pos}:PE X (.Constant (.bool b) j pos) (tC (.c b)):=λ_ _ _ H _ I h=>Constant_bool ⟨.c b,H,I,rfl,h⟩
def Ar{j pos}:PE X (.Constant .none j pos) (tC .d):=λ_ _ _ H _ I h=>Constant_none ⟨.d,H,I,rfl,h⟩
def DI{x j pos}:PE X (.Constant (.str x) j pos) (tC (.e x)):=λ_ _ _ H _ I h=>Calls.Constant_str ⟨.e x,H,I.Z _,⟨_,rfl⟩,h⟩
def Gl(X:Cx)(x:Str):Prop:=X.a.kindOf x=ae .globalImplicit
def DD{s:ak}{O:pz}{x:Str}{u:ai}{pos:Pos}(I:Inv X pb O H s)(g:Gl X x)(b:X.h x=ae u)(h:Q u s)
 (k:qq x<|>pu):aO (aV X.d X.w) X.A (eval (.Name x pos) X.a) Q E s:=
 iz I.e.a g (Calls.loadGlobal_global (by rw[I.e.g];exact I.mod.a.keeps I.bk) b h) k
def CL{s:ak}{O:pz}{x:Str}{u:ai}{pos:Pos}(I:Inv X pb O H s)(g:Gl X x)(b:X.h x=none)(d:fE x=ae u)(h:Q u s)
 (e:x≠"__name__"<|>pu) (k:qq x<|>pu):aO (aV X.d X.w) X.A (eval (.Name x pos) X.a) Q E s:=by
 obtain⟨y,i,j⟩:=I.mod.d;exact iz I.e.a g (Calls.loadGlobal_builtin (by rw[I.e.g];exact I.mod.a.keeps I.bk) b (by rw[I.e.l];exact i.keeps I.bk) ((j x e).trans d) h) k
def Vz{x:Str}{v:V}{u:ai}{pos:Pos}(g:Gl X x)(b:X.h x=ae u)(r:RelV v u)(k:qq x<|>pu):PE X (.Name x pos) (tC v):=
 λ_ _ _ H _ I h=>DD I g b ⟨v,H,I,r,h⟩ k
def V6{x:Str}{v:V}{u:ai}{pos:Pos}(g:Gl X x)(b:X.h x=none)(d:fE x=ae u)(r:RelV v u)(e:x≠"__name__"<|>pu)(k:qq x<|>pu):PE X (.Name x pos) (tC v):=
 λ_ _ _ H _ I h=>CL I g b d ⟨v,H,I,r,h⟩ e k
variable{a b:dH}{tb:TE}{pos:Pos}
def PC(X:Cx)(op:nK)(a b:dH)(t:TE):Prop:=
 ∀ (pb:List (ay×Obj)) (s:ak) (c:pz) (H:Hp) (Q:VK),Inv X pb c H s->t c H Q->
   aO (aV X.d X.w) X.A (eval a X.a) (λv d=>aO (aV X.d X.w) X.A (eval b X.a) (λu e=>aO (aV X.d X.w) X.A (bu op v u) (EP X pb c Q) X.xe e) X.xe d) X.xe s
def tB(t:TE):TT:=λa H Q=>t a H λx d=>∃c,x= .c c/\Q c d
def X1{op:nK}(h:PC X op a b t)(d:fi op b=au<|>sf):PE X (.Compare a [op] [b] pos) t:=λf s c H Q I e=>wpAny_Compare1 (h f s c H Q I e) d
def Dw{op:nK}(h:PC X op a b t)(e:fi op b=au<|>sf):PT X (.Compare a [op] [b] pos) (tB t):=by
 intro g s f H Q I i;refine jF (pB (h g s f H _ I i) λv J e=>pB e λu L j=>pB j λc M c=>?_) e;obtain⟨x,y,z,B,G⟩:=c;obtain⟨d,rfl,q⟩:=G
 cases B
 exact cI ⟨y,z,q⟩
variable{tA tB':TT}
def O5(t u:TT):TT:=λa H Q=>t a H λc d=>if c=aw then u a d Q else Q au d
def yu(t u:TT):TT:=λa H Q=>t a H λc d=>if c=aw then Q aw d else u a d Q
def Ov(t:TT):TT:=λa H Q=>t a H λc d=>Q (!c) d
def DU(d:PT X a tA):PW X (.BoolOp .And [a] pos) tA:=by
 intro i f s b H Q I h;refine isTrue_and (pB (d f s b H Q I h) λc j e=>?_)
 cases c with
 |true=>exact isTrue_and_nil e
 |false=>exact e
def Ba(d:PT X a tA):PW X (.BoolOp .Or [a] pos) tA:=by
 intro i f s b H Q I h;refine isTrue_or (pB (d f s b H Q I h) λc j e=>?_)
 cases c with
 |false=>exact isTrue_or_nil e
 |true=>exact e
def DW(j:PT X a tA)(x:PW X (.BoolOp .And (b::rest) pos) tB'):PW X (.BoolOp .And (a::b::rest) pos) (O5 tA tB'):=by
 intro y g s f H Q I h;refine isTrue_and (pB (j g s f H _ I h) λc z k=>?_);obtain⟨d,e,i⟩:=k
 cases c with
 |true=>exact x y g z f d Q e i
 |false=>exact⟨d,e,i⟩
def BX(j:PT X a tA)(x:PW X (.BoolOp .Or (b::rest) pos) tB'):PW X (.BoolOp .Or (a::b::rest) pos) (yu tA tB'):=by
 intro y g s f H Q I h;refine isTrue_or (pB (j g s f H _ I h) λc z B=>?_);obtain⟨d,e,i⟩:=B
 cases c with
 |true=>exact⟨d,e,i⟩
 |false=>exact x y g z f d Q e i
def Bb(d:PT X a tA):PT X (.UnaryOp .Not a pos) (Ov tA):=by
 intro f s b H Q I h;exact isTrue_not (d f s b H (λc e=>Q (!c) e) I h)
def OI(h g:TE):TE:=λa H Q=>h a H λx d=>∃c,x= .c c/\if c=aw then g a d Q else Q (.c au) d
def Ou(h g:TE):TE:=λa H Q=>h a H λx d=>∃c,x= .c c/\if c=aw then Q (.c aw) d else g a d Q
def OD(g:TE):TE:=λa H Q=>g a H λx d=>∃c,x= .c c/\Q (.c (!c)) d
def DY{op}(h:PE X a t):PE X (.BoolOp op [a] pos) t:=λc s b H Q I d=>BoolOp_one (h c s b H Q I d)
def Er(j:PE X a ta)(y:PE X (.BoolOp .And (b::rest) pos) tb):PE X (.BoolOp .And (a::b::rest) pos) (OI ta tb):=by
 intro g s f H Q I h;refine BoolOp_and (pB (j g s f H _ I h) λv z B=>?_);obtain⟨x,e,i,G,d⟩:=B;obtain⟨c,rfl,d⟩:=d
 cases G
 refine cI ?_
 cases c with
 |true=>exact y g z f e Q i d
 |false=>exact⟨.c au,e,i,rfl,d⟩
def OV(j:PE X a ta)(y:PE X (.BoolOp .Or (b::rest) pos) tb):PE X (.BoolOp .Or (a::b::rest) pos) (Ou ta tb):=by
 intro g s f H Q I h;refine BoolOp_or (pB (j g s f H _ I h) λv z B=>?_);obtain⟨x,e,i,G,d⟩:=B;obtain⟨c,rfl,d⟩:=d
 cases G
 refine cI ?_
 cases c with
 |false=>exact y g z f e Q i d
 |true=>exact⟨.c aw,e,i,rfl,d⟩
def Nh(e:PE X a ta):PE X (.UnaryOp .Not a pos) (OD ta):=by
 intro f s b H Q I h;refine UnaryOp_ (pB (e f s b H _ I h) λv B i=>?_);obtain⟨x,j,y,z,d⟩:=i;obtain⟨c,rfl,d⟩:=d
 cases z
 exact not_of (cI ⟨.c (!c),j,y,rfl,d⟩)
def yV(t:TT)(h g:TE):TE:=λa H Q=>t a H λc d=>if c=aw then h a d Q else g a d Q
def BR(y:PT X c tA)(z:PE X a ta)(B:PE X b tb):PE X (.IfExp c a b pos) (yV tA ta tb):=by
 intro g s f H Q I h;refine wpAny_IfExp (pB (y g s f H _ I h) λd e k=>?_);obtain⟨i,j,x⟩:=k
 cases d with
 |true=>exact z g e f i Q j x
 |false=>exact B g e f i Q j x
end
def pq(K:aB)(H:Hp)(a:ay)(xs:gr):Prop:=
 Rd H a (.a xs)\/
  ∃ (o:Obj) (b:Array ai) (n:Nat),K.lookup a=ae o/\o.cls= .type "list"/\o.dict=none/\o.data= .seq b n/\b.size<=sizeLine/\Vals xs b.toList
def pX(K:aB)(H:Hp)(a:ay)(xs:gr):Prop:=
 Rd H a (.b xs)\/
  ∃ (o:Obj) (b:Array ai) (n:Nat),K.lookup a=ae o/\o.cls= .type "tuple"/\o.data= .seq b n/\b.size<=sizeLine/\Vals xs b.toList
def GY:ai->Option V
 | .none=>ae .d
 | .bool b=>ae (.c b)
 | .int i _=>ae (.a i)
 | .str x _=>ae (.e x)
 | .bytes b _=>ae (.f b)
 | .float b _=>ae (.g b)
 | .ref a=>ae (.b a)
 | .type n=>ae (.h n)
 |_=>none
def RelV.J{u:ai}(r:RelV x u):GY u=ae x:=by
 cases x with
 |d=>cases r;rfl
 |c _=>cases r;rfl
 |a _=>obtain⟨t,rfl⟩:=r;rfl
 |e _=>obtain⟨t,rfl⟩:=r;rfl
 |f _=>obtain⟨t,rfl⟩:=r;rfl
 |g _=>obtain⟨t,rfl⟩:=r;rfl
 |b _=>cases r;rfl
 |h _=>cases r;rfl
def RelV.Z{y:V}{u:ai}(r:RelV x u)(q:RelV y u):x=y:=bv (r.J.symm.trans q.J)
theorem Vals.inj{b d:gr}{us:List ai}(h:Vals b us)(k:Vals d us):b=d:=by
 induction h generalizing d with
 |nil=>cases k;rfl
 |cons r t i=>cases k with|cons e j=>rw[r.Z e,i j]
section
variable{O:pz}{s:ak}{a:ay}{ys:gr}
def pq.J(h:H a=ae (.a xs)):pq K H a xs:= .inl (.inl h)
def pX.J(h:H a=ae (.b xs)):pX K H a xs:= .inl (.inl h)
theorem Inv.J(I:Inv X pb O H s)(h:pq X.K H a xs):∃b:List ai,Vals xs b/\PlainL s.heap a b.toArray/\xs.length<=sizeLine:=by
 rcases h with h|⟨o,b,n,hk,d,c,i,j,r⟩
 .obtain⟨z,b,n,r,e⟩:=h.J I.a;exact⟨b,r,⟨_,n,e,rfl,rfl,rfl⟩,z⟩
 .refine⟨b.toList,r,⟨o,n,I.qB a o hk,d,c,by simpa using i⟩,?_⟩;have e:=r.J;simp only[cB]at e;lia
def Inv.mt(I:Inv X pb O H s)(h:pX X.K H a xs):∃b:List ai,Vals xs b/\IsTup s.heap a b.toArray/\xs.length<=sizeLine:=by
 rcases h with h|⟨o,b,n,hk,d,i,j,r⟩
 .obtain⟨z,b,r,p⟩:=h.J I.a;exact⟨b,r,p,z⟩
 .refine⟨b.toList,r,⟨o,I.qB a o hk,d,n,by simpa using i⟩,?_⟩;have e:=r.J;simp only[cB]at e;lia
def Inv.rG(I:Inv X pb O H s)(h:pq X.K H a xs)(h':pq X.K H a ys):xs=ys:=by
 obtain⟨b,r,⟨o,n,e,_,_,d⟩,_⟩:=I.J h;obtain⟨c,x,⟨z,B,i,_,_,j⟩,_⟩:=I.J h';rw[e]at i;cases i;rw[d]at j;injection j with y _
 have:b=c:=by simpa using cx hJ y
 subst this;exact r.inj x
def Inv.uC(I:Inv X pb O H s)(h:pX X.K H a xs)(h':pX X.K H a ys):xs=ys:=by
 obtain⟨b,r,⟨o,e,_,n,d⟩,_⟩:=I.mt h;obtain⟨c,x,⟨z,i,_,B,j⟩,_⟩:=I.mt h';rw[e]at i;cases i;rw[d]at j;injection j with y _
 have:b=c:=by simpa using cx hJ y
 subst this;exact r.inj x
end
abbrev Cx.rp(X:Cx)(E:ai->ak->Prop):Cx:={X with xe:=E}
abbrev Cx.ux(X:Cx):Cx:=X.rp λ_ _=>False
theorem Cx.Z.rp(ok:X.Z)(E:ai->ak->Prop):(X.rp E).Z:=
 ⟨ok.f,ok.a,ok.g,ok.l,ok.d,ok.q,ok.r,ok.p,ok.k,ok.e,ok.m,ok.t,ok.v,ok.h,ok.i,ok.j,ok.u,ok.n⟩
theorem Cx.Z.Z(ok:(X.rp E).Z):X.Z:=
 ⟨ok.f,ok.a,ok.g,ok.l,ok.d,ok.q,ok.r,ok.p,ok.k,ok.e,ok.m,ok.t,ok.v,ok.h,ok.i,ok.j,ok.u,ok.n⟩
section
variable{O:pz}{s:ak}
theorem Inv.rp(I:Inv X pb O H s)(E:ai->ak->Prop):Inv (X.rp E) pb O H s:=⟨I.e.rp E,I.n,I.d,I.b,I.j,I.h,I.g,I.f,I.k,I.a,I.l⟩
def Inv.qw(I:Inv (X.rp E) pb O H s):Inv X pb O H s:=⟨I.e.Z,I.n,I.d,I.b,I.j,I.h,I.g,I.f,I.k,I.a,I.l⟩
def SP.J{f:Flow}{g:ak}(h:SP (X.rp E) pb D f g):SP X pb D f g:=by
 cases f with
 |next=>obtain⟨a,b,I,q⟩:=h;exact⟨a,b,I.qw,q⟩
 |brk=>obtain⟨a,b,I,q⟩:=h;exact⟨a,b,I.qw,q⟩
 |cont=>obtain⟨a,b,I,q⟩:=h;exact⟨a,b,I.qw,q⟩
 |ret u=>obtain⟨v,a,b,I,r,q⟩:=h;exact⟨v,a,b,I.qw,r,q⟩
theorem rm.J{t:TS}(h:rm X.ux st t):rm X st t:=λc s a H D I b=>
 bi (h c s a H D (I.rp _) b) (λ_ _ q=>q.J) λ_ _ z=>bH z
end
section
variable{st:kh}{rest:List kh}{t u:TS}{pos:Pos}
def ud:TS:=λD a H=>D.nx a H
def FA(t u:TS):TS:=λD a H=>t {D with nx:=u D} a H
def AW:rm X [] ud:=λ_ _ a H _ I h=>gC ⟨a,H,I,h⟩
def AD(b:PS X st t)(d:rm X rest u):rm X (st::rest) (FA t u):=by
 intro c s e H D I h;refine mh (pB (b c s e H {D with nx:=u D} I h) λf i q=>?_)
 cases f with
 |next=>
  obtain⟨a,j,x,q⟩:=q;exact d c i a j D x q
 |ret v=>exact q
 |brk=>exact q
 |cont=>exact q
def AE(b:PS X st t):rm X [st] t:=by
 intro c s a H D I h;refine mh (pB (b c s a H D I h) λf d q=>?_)
 cases f with
 |next=>exact gC q
 |ret v=>exact q
 |brk=>exact q
 |cont=>exact q
def we:TS:=λD a H=>D.b a H
def Ql:PS X (.Continue pos) we:=λ_ _ a H _ I h=>wpAny_Continue ⟨a,H,I,h⟩
def Inv.quiet{O:pz}{s:ak}(I:Inv X pb O H s):interactive X.a=au:=by simp[interactive,I.e.a]
def OE(g:TE):TS:=λD a H=>g a H λ_ b=>D.nx a b
def Au(b:PE X e te)(d:gZ e none pos.line X.a=pure false<|>n'):PS X (.Expr e pos) (OE te):=by
 intro c s a H D I h;exact wpAny_Expr_any (zz (b c s a H _ I h) λv z x i j B y=>⟨a,i,j,y⟩) I.quiet d
def JD(g:TE):TS:=λD a H=>g a H D.a
def AJ(b:PE X e te):PS X (.Return (ae e) pos) (JD te):=by
 intro c s a H D I h;exact wpAny_Return_some (zz (b c s a H _ I h) λv z x d i j y=>⟨x,a,d,i,j,y⟩)
def EB(c:TT)(t u:TS):TS:=λD a H=>c a H λb d=>if b=aw then t D a d else u D a d
def AV{a b:List kh}(z:PT X c tc)(B:rm X a t)(G:rm X b u):PS X (.If c a b pos) (EB tc t u):=by
 intro f s e H D I h;refine wpAny_If (pB (z f s e H _ I h) λd i J=>?_);obtain⟨j,x,y⟩:=J
 cases d with
 |true=>exact B f i e j D x y
 |false=>exact G f i e j D x y
end
abbrev TG:=V->pz->Hp->(pz->Hp->Prop)->Prop
abbrev tF:=gr->pz->Hp->(pz->Hp->Prop)->Prop
def PG(X:Cx)(g:dH)(t:TG):Prop:=
 ∀ (pb:List (ay×Obj)) (s:ak) (c:pz) (H:Hp) (v:V) (u:ai) (Q:pz->Hp->Prop),Inv X pb c H s->RelV v u->t v c H Q->
   aO (aV X.d X.w) X.A (iB g X.a u) (λ_ d=>∃a b,Inv X pb a b d/\Q a b) X.xe s
def xm(X:Cx)(g:List dH)(t:tF):Prop:=
 ∀ (pb:List (ay×Obj)) (s:ak) (c:pz) (H:Hp) (vs:gr) (b:List ai) (Q:pz->Hp->Prop),Inv X pb c H s->Vals vs b->t vs c H Q->
   aO (aV X.d X.w) X.A (assignInOrder ((fq g X.a).map (·.2)) b) (λ_ e=>∃a d,Inv X pb a d e/\Q a d) X.xe s
abbrev tW:=V->V->V->Hp->(Hp->Prop)->Prop
def JN(X:Cx)(t:tW):Prop:=
 ∀ (pb:List (ay×Obj)) (s:ak) (a:pz) (H:Hp) (o i v:V) (b d u:ai) (Q:Hp->Prop),Inv X pb a H s->RelV o b->RelV i d->RelV v u->t o i v H Q->
   aO (aV X.d X.w) X.A (oh b d u) (λ_ j=>∃e,Inv X pb a e j/\Q e) X.xe s
abbrev wB:=V->V->Hp->VK->Prop
def yf(X:Cx)(op:kb)(t:wB):Prop:=
 ∀ (pb:List (ay×Obj)) (s:ak) (a:pz) (H:Hp) (x y:V) (v u:ai) (Q:VK),Inv X pb a H s->RelV x v->RelV y u->t x y H Q->
   aO (aV X.d X.w) X.A (nR op v u) (EP X pb a Q) X.xe s
section
variable{pos:Pos}
def BK(i:Nat):TG:=λv a H Q=>Q (a.set i (ae v)) H
def Am{x:Str}(b:X.N.Nodup)(g:X.N[i]? =ae x)(d:Loc X.a.scope x)(e:X.i x=aw\/X.a.scope.names.lookup x=ae .local<|>qz):PG X (.Name x pos) (BK i):=by
 intro c s a H v u Q I r h;exact iO (FV I b g d r (λy j=>⟨_,H,j,h⟩) e)
def v8:tF:=λvs a H Q=>vs=[]/\Q a H
def GN(t:TG)(u:tF):tF:=λvs c H Q=>∃v r,vs=v::r/\t v c H λa b=>u r a b Q
def Bh:xm X [] v8:=by
 intro d s a H c b Q I r h;obtain⟨e,h⟩:=h;subst e
 cases r
 exact assignInOrder_nil ⟨a,H,I,h⟩
def Ao{t:TG}{u:tF}(b:PG X e t)(d:xm X es u)
 (i:(fq (e::es) X.a).map (·.2)=iB e X.a::(fq es X.a).map (·.2)<|>n'):xm X (e::es) (GN t u):=by
 intro c s f H k J Q I r h;obtain⟨v,L,j,h⟩:=h;subst j
 cases r with
 |cons r g=>
  rw[i];refine assignInOrder_cons (pB (b c s f H _ _ _ I r h) λ_ x y=>?_);obtain⟨a,z,B,G⟩:=y;exact d c x a z _ _ Q B g G
def FI(K:aB)(n:Nat)(t:tF):TG:=λv c H Q=>∃a b,v= .b a/\pX K H a b/\b.length=n/\t b c H Q
def Xx{k:Nat}{t:tF}(j:X.calm=aw)(h:xm X es t)
 (x:(fq es X.a).length=n<|>n') (d:(fq es X.a).findIdx? (·.1)=none<|>n'):PG X (.Tuple es k pos) (FI X.K n t):=by
 intro f s c H v u Q I r i;obtain⟨a,y,z,B,G,i⟩:=i;subst z
 cases r
 obtain⟨J,rv,g,R⟩:=I.mt B;refine assign_Tuple_tuple (I.e.k j) g (by simp[x,<-G,rv.J]) d λL M=>?_;have P:Inv X f c H {s with heap:=L}:=I.ap (t':=s.toks) λb o e=>M b o (aT (ax e)) e;exact h f _ c H y _ Q P (by simpa using rv) i
def PY(b d:TE)(t:tW):TG:=λv a H Q=>b a H λo e=>d a e λi j=>t o i v j λx=>Q a x
def Cc{o i:dH}{g k:TE}{t:tW}(j:PE X o g)(l:PE X i k)(z:JN X t)
 (B:(∀v,iB (.Subscript o i pos) X.a v=(do
   let b<-gQ [v] (eval o X.a)
   let d<-gQ [v,b] (eval i X.a)
   hU pos
   gQ [v,b,d] (oh b d v)
   release [v,b,d] []))<|>q0):PG X (.Subscript o i pos) (PY g k t):=by
 intro c s a H v u Q I r h;rw[B];refine ac (cJ (pB (j c s a H _ I h) λb G e=>?_));obtain⟨x,J,L,M,P⟩:=e;refine ac (cJ (pB (l c G a J _ L P) λd R e=>?_));obtain⟨y,S,T,U,Y⟩:=e;refine ac (dF (ac (cJ (pB (z c R a S x y v b d u _ T M U r Y) λ_ n e=>?_))));obtain⟨Z,m,f⟩:=e;exact wpAny_release ⟨a,Z,m,f⟩
def CN(b:TE)(g:TG):TS:=λD a H=>b a H λx d=>g x a d D.nx
def Bc{g:TG}(b:PE X e te)(k:PG X tg g)(d:swapsWithSole [tg] e pos.line X.a=pure false<|>n')(i:swappedStores [tg] e X.a=pure none<|>n')
 (j:(fq [tg] X.a).map (·.2)=[iB tg X.a]<|>n'):PS X (.Assign [tg] e pos) (CN te g):=by
 intro c s a H D I h;refine wpAny_Assign_stores (zz (b c s a H _ I h) λv y x z B G J=>?_) d i;rw[j];exact pB (k c y a z x v _ B G J) λ_ L q=>q
def Cu{x:Str}(b:X.N.Nodup)(g:X.N[i]? =ae x)(d:Loc X.a.scope x)(j:PE X e te)(z:gZ e (ae (.Name x pos')) pos.line X.a=pure false<|>n')(B:X.i x=aw\/X.a.scope.names.lookup x=ae .local<|>qz):
 PS X (.Assign [.Name x pos'] e pos) (CN te (BK i)):=by
 intro c s a H D I h;refine wpAny_Assign_Name (zz (j c s a H _ I h) λv Q y G J L M=>?_) z;exact FV J b g d L (λR P=>⟨_,G,P,M⟩) B
def Oz(i:Nat)(b:TE)(d:wB):TS:=λD a H=>∃x,a[i]? =ae (ae x)/\b a H λy e=>d x y e λz j=>D.nx (a.set i (ae z)) j
def Eo{x:Str}{op:kb}{q:wB}(J:X.N.Nodup)(O:X.N[i]? =ae x)(j:Loc X.a.scope x)(L:PE X e te)(M:yf X op q)(P:X.i x=aw\/X.a.scope.names.lookup x=ae .local<|>qz):
 PS X (.AugAssign (.Name x pos') op e pos) (Oz i te q):=by
 intro f s g H D I h;obtain⟨v,Q,h⟩:=h;obtain⟨m,R,S⟩:=I.j;have B:xa X.a.scope x:=by rcases j with k|k;exact .inl k;exact .inr (.inl k)
 obtain⟨u,r,l⟩:=S i x v O Q B;refine wpAny_AugAssign_Name ?_;have n:aO (aV X.d X.w) X.A (eval e X.a) (λw b=>aO (aV X.d X.w) X.A (nR op u w) (λr d=>aO (aV X.d X.w) X.A (nO X.a x r) (λ_=>SP X f D .next) X.xe d) X.xe b) X.xe s:=by
  refine pB (L f s g H _ I h) λw T G=>?_;obtain⟨y,U,Y,Z,t⟩:=G;refine pB (M f T g U v y u w _ Y r Z t) λz s2 G=>?_;obtain⟨zv,H2,V,o,p⟩:=G;exact FV V J O j o (λs3 K=>⟨_,H2,K,p⟩) P
 rcases l with⟨hk,C⟩|⟨hk,c,E,a⟩
 .exact kg I.e.a hk R C n
 .rcases hk with hk|hk
  .exact ky I.e.a hk E a n
  .rcases j with k|k
   .have:X.a.scope.names.lookup x=ae .free:=hk;rw[k]at this;cases this
   .have:X.a.scope.names.lookup x=ae .free:=hk;rw[k]at this;cases this
def OH(j B G:TE)(b:V->V->Hp->VK->Prop)(e:wB)(d:tW):TS:=λD a H=>j a H λo I=>B a I λi J=>b o i J λx L=>G a L λy M=>e x y M λz P=>d o i z P λQ=>D.nx a Q
def Pa(X:Cx)(t:V->V->Hp->VK->Prop):Prop:=
 ∀ (pb:List (ay×Obj)) (s:ak) (a:pz) (H:Hp) (o i:V) (b d:ai) (Q:VK),Inv X pb a H s->RelV o b->RelV i d->t o i H Q->
   aO (aV X.d X.w) X.A (lE b d) (EP X pb a Q) X.xe s
def Eg{o i:dH}{m q:TE}{k:wB}{g:tW}{op:kb}(G:PE X o m)(hi:PE X i q)(hg:Pa X tget)(J:PE X e te)(L:yf X op k)(M:JN X g)
 (P:∀b d a,augStore i b d a=(do gQ [a,b,d] (oh b d a);release [a,b,d] [];pure .next):=by intros;rfl):PS X (.AugAssign (.Subscript o i tpos) op e pos) (OH m q te tget k g):=by
 intro f s c H D I h;refine wpAny_AugAssign_SubscriptAny (zz (G f s c H _ I h) λb Q x R S y T=>?_) P;refine pB (hi f Q c R _ S T) λd U j=>?_;obtain⟨z,Y,Z,B,q2⟩:=j;refine pB (hg f U c Y x z b d _ Z y B q2) λl w j=>?_;obtain⟨r,H3,I3,E,V⟩:=j;refine pB (J f w c H3 _ I3 V) λv u j=>?_;obtain⟨p,H4,I4,C,O⟩:=j;refine pB (L f u c H4 r p l v _ I4 E C O) λa t j=>?_;obtain⟨n,H5,I5,A,N⟩:=j;exact pB (M f t c H5 x z n b d a _ I5 y B A N) λ_ s6 ⟨H6,I6,K⟩=>⟨c,H6,I6,K⟩
def yE(f:Int->Int->Int):wB:=λx y H Q=>∃i j,x= .a i/\y= .a j/\Q (.a (f i j)) H
def DJ:yf X .Add (yE λi j=>i+j):=by
 intro c s a H x y v u Q I b d h;obtain⟨i,j,e,z,q⟩:=h;subst e;subst z;obtain⟨t,rfl⟩:=b;obtain⟨B,rfl⟩:=d;exact iadd_int ⟨.a _,H,I.Z _,⟨_,rfl⟩,q⟩
def YO:yf X .Sub (yE λi j=>i-j):=by
 intro c s a H x y v u Q I b d h;obtain⟨i,j,e,z,q⟩:=h;subst e;subst z;obtain⟨t,rfl⟩:=b;obtain⟨B,rfl⟩:=d;exact isub_int ⟨.a _,H,I.Z _,⟨_,rfl⟩,q⟩
def NM(c:TT)(g:TS):TS:=λD a H=>∃W:Nat->pz->Hp->Prop,(∃m,W m a H)/\∀m a H,W m a H->
 c a H λb d=>if b=aw then∃N:pz->Hp->Prop,(∀f e,N f e->∃i,i<m/\W i f e)/\g {D with nx:=N,b:=N,c:=D.nx} a d else D.nx a d
def HM(B:PassesOwn (aV X.d X.w) X.A X.a X.xe)(Q:PT X c tc)(R:rm X body tb):PS X (.While c body [] pos) (NM tc tb):=by
 intro m s p H D I h;obtain⟨W,⟨S,T⟩,l⟩:=h;refine wpAny_While (codeAny_whileLoop (λn U=>∃k G,Inv X m k G U/\W n k G) ?_ S ⟨p,H,I,T⟩);rintro n Y ⟨g,J,Z,r⟩;refine eV B (pB (Q m Y g J _ Z (l n g J r)) λb t q=>?_);obtain⟨L,M,e⟩:=q
 cases b with
 |true=>
  obtain⟨N,P,e⟩:=e;rw[aU rfl];refine eV B (pB (R m t g L _ M e) λf u i=>?_)
  cases f with
  |next=>
   obtain⟨a,d,j,o⟩:=i;obtain⟨x,y,z⟩:=P a d o;exact⟨x,y,a,d,j,z⟩
  |cont=>
   obtain⟨a,d,j,o⟩:=i;obtain⟨x,y,z⟩:=P a d o;exact⟨x,y,a,d,j,z⟩
  |brk=>exact i
  |ret v=>exact i
 |false=>
  rw[aP av];exact gC ⟨g,L,M,e⟩
end
structure qo where
 d:Nat->Hp->Prop
 c:Nat->Hp->V->Hp->Prop
 a:Nat->Hp->Prop
def BZ(X:Cx)(pb:List (ay×Obj))(H:Hp)(b:ay):Prop:=
 H b=none/\b≠X.a.locals/\b∉X.J/\(b∈X.k\/X.j.heap.objs.size<=b)/\(∀x c,X.a.cells.lookup x=ae c->c≠b)/\∀p∈X.pn++pb,p.1≠b
def Inv.sJ{O:pz}{s:ak}{b:ay}(I:Inv X pb O H s)(d:s.1.1.size<=b)(i:H' b=none):BZ X pb H' b:=by
 refine⟨i,eF (aQ I.lt d),I.yz d, .inr (bw I.sz d),λx c e z=>?_,λp j z=>?_⟩
 .obtain⟨v,q⟩:=I.h x c e;exact absurd (aQ q.lt (by rw[z];exact d)) (ck _)
 .exact absurd (aQ (ax (I.k p j).1) (by rw[z];exact d)) (ck _)
structure Turn (P:bW) (w:dh) (K:aB) (tg:dH) (J:qo) (fp:List ay) (it:ay) (tn:Nat->dg->Prop):Prop where
 g:it∈fp
 e:∀i h,tn i h->∀b∈fp,∃o,h.get? b=ae o/\∀v,o.data≠ .cell v
 a:∀i h h',tn i h->(∀b∈fp,∀o,h.get? b=ae o->h'.get? b=ae o)->tn i h'
 c:∀ (X:Cx),X.d=P->X.w=w->X.K=K->X.calm=aw->∀ (i:Nat) (pb:List (ay×Obj)) (s:ak) (O:pz) (H:Hp) (E:ai->ak->Prop),Inv X pb O H s->(∀b∈fp,BZ X pb H b)->tn i s.heap->J.d i H->
  aO (aV P w) X.A (fA (.ref it)) (λr s1=>∃u,r=ae u/\
   aO (aV P w) X.A (c8 tg (.ref it) u) (λ_ s2=>∃x H',Inv X pb O H' s2/\RelV x u/\J.c i H x H'/\tn (i+1) s2.heap/\∀b∈fp,H' b=none) E s1) E s
 d:∀ (X:Cx),X.d=P->X.w=w->X.K=K->X.calm=aw->∀ (i:Nat) (pb:List (ay×Obj)) (s:ak) (O:pz) (H:Hp) (E:ai->ak->Prop),Inv X pb O H s->(∀b∈fp,BZ X pb H b)->tn i s.heap->J.a i H->
  aO (aV P w) X.A (fA (.ref it)) (λr s1=>r=none/\Inv X pb O H s1) E s
 f:∀ (A:fL) (i:Nat) (s:ak) (Q:ai->ak->Prop) (E:ai->ak->Prop),tn i s.heap->Q (.ref it) s->aO (aV P w) A (jl (.ref it)) Q E s
abbrev TI:=pz->Hp->(qo->Hp->Prop)->Prop
end
end Lake
variable{g:TG}
namespace Lake
section
variable{dx:ay}{p:ay×Obj}{vs:Array ai}{b:Bool}{op':nK}{a:dH}{g:Int->Int->Int}{C:Int->Int->Prop}{kw:List (Str×ai)}{body:List kh}{ns:hE}{its:List ai}{o:Option ai}{mA:Str->Option ai}{x y:V}{r:V->Hp->VK->Prop}{R:V->V->Hp->Prop}{rd:V->V->Hp->VK->Prop}{f:ai->ai->Sem ai}{Q:ai×List ai->ak->Prop}
def yJ(X:Cx)(pb:List (ay×Obj))(O:pz)(tg:dH)(R:qo->Hp->Prop)(d:ai)(i:ak):Prop:=
 ∃ (a:ay) (c:List ay) (j:Nat->dg->Prop) (J:qo) (e:Hp),d= .ref a/\Inv X pb O e i/\Turn X.d X.w X.K tg J c a j/\j 0 i.heap/\(∀b∈c,BZ X pb e b)/\R J e
def PI(X:Cx)(tg iter:dH)(b:TI):Prop:=
 ∀ (pb:List (ay×Obj)) (s:ak) (a:pz) (H:Hp) (R:qo->Hp->Prop),Inv X pb a H s->b a H R->
   aO (aV X.d X.w) X.A (eval iter X.a) (λv d=>aO (aV X.d X.w) X.A (jl v) (yJ X pb a tg R) X.xe d) X.xe s
def EA{s:ak}{k:ay}{u:ai}{o:Obj}{n:String}{Q:Unit->ak->Prop}(d:s.heap.get? k=ae o)(e:o.cls= .type n)(l:o.data= .fields vs)
 (i:["enumerate","zip","dict_itemiterator","dict_reverseitemiterator","odict_iterator","itertools.zip_longest","itertools.pairwise"].contains n=au) (b:Q () s):aO M A (c8 tg (.ref k) u) Q E s:=by
 unfold c8
 cases tg<;>first
  |exact ah b
  |(cases u<;>first
     |exact ah b
     |(refine ac (lC d ?_)
       rw[e,l];show aO M A (if(["enumerate","zip","dict_itemiterator","dict_reverseitemiterator","odict_iterator","itertools.zip_longest","itertools.pairwise"].contains n&&vs[0]? ==ae (c7 _))=aw then _ else _) Q E s;rw[aP (by intro h;rw[i,m8]at h;cases h)];exact ah b))
def uA(K:aB)(a:ay):qo:=
 ⟨λi H=>∃b x,pq K H a b/\b[i]? =ae x,λi H x d=>d=H/\∀b,pq K H a b->b[i]? =ae x,λi H=>∃b,pq K H a b/\b.length<=i⟩
def uS(h:Int)(n:Nat):qo:=⟨λi _=>i<n,λi H x b=>b=H/\x= .a (h+i),λi _=>n<=i⟩
def R9(a l:ay):Turn P w K tg (uA K a) [l] l (λi h=>h.IsListIter l a i) where
 g:=by simp
 e:=λi h j b y=>by
  have e:b=l:=by simpa using y
  subst e;obtain⟨o,e,c,d⟩:=j;exact⟨o,e,λv z=>by rw[d]at z;cases z⟩
 a:=λi h G j k=>j.at λo e=>k l b' o e
 c:=by
  intro X M Q R r i q s n H E I J j f;subst M Q R;obtain⟨t,x,L,S⟩:=f;obtain⟨T,rv,p,D⟩:=I.J L;obtain⟨u,O,C⟩:=rv.ld S;obtain⟨U,Y,V,Z,m,g⟩:=J l b';refine wpAny_pyNext_list_item j p.isList (x:=u) (by simpa using O) λG B A=>?_;have I1:Inv X q n H {s with heap:=G}:=I.turned (t':=s.toks) (λb o y e=>(A.2 b y).trans e) U Y Z m g;obtain⟨o,e,c,d⟩:=id B;exact⟨u,rfl,EA (s:={s with heap:=G}) e c d oY ⟨x,H,I1,C,⟨rfl,λys N=>by rw[I.rG N L];exact S⟩,B,λb y=>(J b y).1⟩⟩
 d:=by
  intro X M Q R r i q s n H E I J j f;subst M Q R;obtain⟨t,L,S⟩:=f;obtain⟨T,rv,p,D⟩:=I.J L;obtain⟨U,Y,V,Z,m,g⟩:=J l b';have hl:=rv.J;exact wpAny_pyNext_list_end (I.e.k r) j p.isList (by simp;lia) λG eb=>⟨rfl,I.turned (t':=s.toks) (λb o y e=>eb b o y e) U Y Z m g⟩
 f:=λ_ _ _ _ _ j h=>wpAny_pyIter_listiter j h
def RJ(l:ay)(m:Int)(n:Nat):Turn P w K tg (uS m n) [l] l (λi h=>kK h l (m+(i:Nat)*1) ((n:Int)-(i:Nat)) 1) where
 g:=by simp
 e:=λi h d b j=>by
  have e:b=l:=by simpa using j
  subst e;exact⟨_,d,λv z=>by
   have Z:oE _=Data.cell v:=z
   cases Z⟩
 a:=λi h y d k=>k l b' _ d
 c:=by
  intro X G J L M i f s c H E I B d a;subst G J L;obtain⟨Q,R,q,S,T,U⟩:=B l b';have W:=ot (prog:=X.d) (w:=X.w) (I.e.k M) l m 1 n;refine W.item i s _ _ a d λv y Y p x g=>?_;obtain⟨t,rfl⟩:=p;have u:Inv X f c H {s with heap:=y,toks:=Y}:=I.turned (λb o j e=>g b o (by simpa using j) e) Q R S T U;refine⟨_,rfl,EA (s:={s with heap:=y,toks:=Y}) (n:="range_iterator") x rfl rfl oY ⟨.a (m+i),H,u,⟨t,?_⟩,⟨rfl,rfl⟩,x,λb j=>(B b j).1⟩⟩;rw[mX]
 d:=by
  intro X G J L M i f s c H E I B d a;subst G J L;obtain⟨Q,R,q,S,T,U⟩:=B l b';exact jt (I.e.k M) d (by have:n<=i:=a;lia) λy r=>⟨rfl,I.turned (t':=s.toks) (λb o j e=>r b o j e) Q R S T U⟩
 f:=λ_ _ _ _ _ d h=>jv d h
def Iy(K:aB)(d:TE):TI:=λc H R=>d c H λx b=>∃a,x= .b a/\(∃e,pq K b a e)/\R (uA K a) b
def Vv{l:dH}{k:TE}(j:PE X l k):PI X tg l (Iy X.K k):=by
 intro f s c H R I h;refine pB (j f s c H _ I h) λv d y=>?_;obtain⟨x,z,i,B,G⟩:=y;obtain⟨a,e,⟨P,J⟩,q⟩:=G;subst e
 cases B
 obtain⟨L,g,p,Q⟩:=i.J J;refine fM p.isList ?_;refine⟨d.1.1.size,[d.1.1.size],_,_,z,rfl,i.ap (t':=d.toks) λb o e=>af _ e,R9 a _,⟨_,aq _ rfl,rfl,rfl⟩,λb M=>?_,q⟩;have e:b=d.1.1.size:=by simpa using M
 subst e;exact i.sJ (am _) (i.a.J (am _))
theorem UK{O:pz}{s:ak}{R:qo->Hp->Prop}{h:Int}{t u v:Tok}{k:Nat}(I:Inv X pb O H s)(i: -(2^62)<=lo)(j:lo<2^62)(x: -(2^62)<=h)(y:h<2^62)
 (q:R (uS lo (h-lo).toNat) H):aO (aV X.d X.w) X.A (jl (.ref s.1.1.size)) (yJ X pb O tg R) E {s with heap:=s.heap.push {cls:= .type "range",data:= .fields #[.int lo t, .int h u, .int 1 v]},toks:=k}:=by
 refine kP (oB ..) (small_one i j x y) ?_;have d:Inv X pb O H {s with heap:=s.heap.push {cls:= .type "range",data:= .fields #[.int lo t, .int h u, .int 1 v]},toks:=k}:=I.ap λb o e=>af _ e;refine⟨(s.heap.push {cls:= .type "range",data:= .fields #[.int lo t, .int h u, .int 1 v]}).objs.size,[(s.heap.push {cls:= .type "range",data:= .fields #[.int lo t, .int h u, .int 1 v]}).objs.size],_,_,H,rfl,
  d.ap (t':=k) λb o e=>af _ e,RJ _ lo (h-lo).toNat,?_,λb z=>?_,q⟩
 .have B:lo+((0:Nat):Int)*1=lo:=by simp
  have G:(((h-lo).toNat:Nat):Int)-((0:Nat):Int)=cM lo h 1:=by rw[rangeSize_one];split<;>lia
  show kK _ _ (lo+((0:Nat):Int)*1) ((((h-lo).toNat:Nat):Int)-((0:Nat):Int)) 1;rw[B,G];exact aq _ rfl
 .have e:b=(s.heap.push {cls:= .type "range",data:= .fields #[.int lo t, .int h u, .int 1 v]}).objs.size:=by simpa using z
  subst e;exact d.sJ (am _) (d.a.J (am _))
def Oa(b:TA):TI:=λa H R=>b a H λvs d=>∃j:Int,vs=[.a j]/\ -(2^62)<=j/\j<2^62/\R (uS 0 j.toNat) d
def CI{k:TA}{p pos:Pos}(l:Gl X "range")(d:X.h "range"=none)(i:PA X [a] k)(x:aI [a] X.a=[(au,eval a X.a)]<|>n'):PI X tg (.Call (.Name "range" p) [a] [] pos) (Oa k):=by
 intro g s c H R I h;refine Call_ (CL I l d boot_range (bN (zQ (i pos g s c H _ I h) λG J m L y z b=>?_) x rfl));obtain⟨j,e,b,B,q⟩:=b;subst e
 cases z with
 |cons r f=>
  cases f
  obtain⟨t,rfl⟩:=r;exact call_range_1 (UK y oZ oZ b B (by simpa using q))
def Ow(e:TI)(g:TG)(h:TS):TS:=λD a H=>e a H λJ j=>∃W:Nat->Nat->pz->Hp->Prop,(∃m,W 0 m a j)/\∀i m a H,W i m a H->
 (J.a i H/\D.nx a H)\/(J.d i H/\∃N:pz->Hp->Prop,(∀c b,N c b->∃d,d<m/\W (i+1) d c b)/\∀x b,J.c i H x b->g x a b λf y=>h {D with nx:=N,b:=N,c:=D.nx} f y)
def DX(k:List ay)(h:dg):List (ay×Obj):=k.filterMap λb=>(h.get? b).map λo=>(b,o)
def C8{k:List ay}{h:dg}{b:ay}{o:Obj}(d:b∈k)(e:h.get? b=ae o):(b,o)∈DX k h:=gJ.mpr ⟨b,d,by rw[e];rfl⟩
def Sb{k:List ay}{h:dg}(d:p∈DX k h):p.1∈k/\h.get? p.1=ae p.2:=by
 obtain⟨b,i,e⟩:=gJ.mp d
 cases q:h.get? b with
 |none=>rw[q]at e;cases e
 |some o=>
  rw[q]at e;have j:(b,o)=p:=bv e;subst j;exact⟨i,q⟩
def Inv.pinned{O:pz}{s:ak}{h:List ay}(I:Inv X pb O H s)(x:∀b∈h,BZ X pb H b)(y:∀b∈h,∃o,s.heap.get? b=ae o/\∀v,o.data≠ .cell v):Inv X (pb++DX h s.heap) O H s:=
 I.uw λp B=>(cS.mp B).elim (λz=>I.k p (aX _ z)) λz=>by
  obtain⟨i,e⟩:=Sb z;obtain⟨G,J,L,_⟩:=x p.1 i;obtain⟨o,j,d⟩:=y p.1 i;rw[e]at j;cases j;exact⟨e,G,J,L,d⟩
def Inv.qt{pl:List (ay×Obj)}{O:pz}{s:ak}(I:Inv X (pb++pl) O H s):Inv X pb O H s:=I.uw λp b=>I.k p (aX _ (cP _ b))
def BL{iter:dH}{wi:TI}{g:TG}{pos:Pos}(L:PassesOwn (aV X.d X.w) X.A X.a X.xe)(hc:X.calm=aw)(hi:PI X tg iter wi)(hg:PG X tg g)(j:rm X body tb)
 (hs:(∀x,cK iter X.a x=pure x)<|>q0):PS X (.For tg iter body [] pos) (Ow wi g tb):=by
 intro q s O H D I h;refine wpAny_For (pB (hi q s O H _ I h) λv s1 h1=>pB h1 λa0 s2 h2=>?_) hs;obtain⟨it,K,tn,J,H2,e,I2,T,S,f2,W,⟨m0,w0⟩,t⟩:=h2;subst e;have y:∀ {l:Hp},(∀b∈K,l b=none)->∀b∈K,BZ X q l b:=λhn b j=>⟨hn b j,(f2 b j).2⟩;refine codeAny_forLoop_any (λn s'=>∃i k l,Inv X q k l s'/\tn i s'.heap/\(∀b∈K,l b=none)/\W i n k l) ?_ m0 ⟨0,O,H2,I2,S,λb j=>(f2 b j).1,w0⟩;rintro n s3 ⟨i,c,R,I3,M,P,w3⟩;rcases t i n c R w3 with⟨C,qn⟩|⟨go,N,hN,E⟩
 .refine eV L (pB (T.d X rfl rfl rfl hc i q s3 c R X.xe I3 (y P) M C) λr s4 G=>?_);obtain⟨U,I4⟩:=G;subst U;exact gC ⟨c,R,I4,qn⟩
 .refine eV L (pB (T.c X rfl rfl rfl hc i q s3 c R X.xe I3 (y P) M go) λr s4 G=>?_);obtain⟨u,U,h4⟩:=G;subst U;refine eV L (pB h4 λ_ s5 G=>?_);obtain⟨x,H5,I5,r5,y5,V,Y⟩:=G;have Z:=I5.pinned (y Y) (T.e _ _ V);refine eV L (pB (hg _ s5 c H5 x u _ Z r5 (E x H5 y5)) λ_ s6 G=>?_);obtain⟨σ,H6,I6,q6⟩:=G;refine eV L (pB (j _ s6 σ H6 _ I6 q6) λf s7 p=>?_);have nX:∀ {a:pz} {z:Hp},Inv X (q++DX K s5.heap) a z s7->N a z->∃m,m<n/\∃i k l,Inv X q k l s7/\tn i s7.heap/\(∀b∈K,l b=none)/\W i m k l:=fun{a z} B Q=>by
   obtain⟨m',hm,w7⟩:=hN a z Q;refine⟨m',hm,i+1,a,z,B.qt,T.a _ _ _ V λb j o e=>(B.k (b,o) (aX _ (aX _ (C8 j e)))).1,λb j=>?_,w7⟩;obtain⟨o,e,d⟩:=T.e _ _ V b j;exact(B.k (b,o) (aX _ (aX _ (C8 j e)))).2.1
  cases f with
  |next=>obtain⟨a,z,B,Q⟩:=p;exact nX B Q
  |cont=>obtain⟨a,z,B,Q⟩:=p;exact nX B Q
  |brk=>obtain⟨a,z,B,p⟩:=p;exact⟨a,z,B.qt,p⟩
  |ret v=>obtain⟨x7,a,z,B,r7,p⟩:=p;exact⟨x7,a,z,B.qt,r7,p⟩
theorem Lu{a:ay}{g:TG}{O:pz}(h:Nat->pz->Hp->Prop)(s:h 0 O H)(B:∀i O H,i<=xs.length->h i O H->pq K H a xs)
 (G:∀i x O H,xs[i]? =ae x->h i O H->g x O H λc j=>tb {D with nx:=h (i+1),b:=h (i+1),c:=D.nx} c j) (l:∀O H,h xs.length O H->D.nx O H):
 ∃W:Nat->Nat->pz->Hp->Prop,(∃m,W 0 m O H)/\∀i m O H,W i m O H->
  ((uA K a).a i H/\D.nx O H)\/((uA K a).d i H/\∃N:pz->Hp->Prop,(∀f b,N f b->∃z,z<m/\W (i+1) z f b)/\∀x b,(uA K a).c i H x b->g x O b λc j=>tb {D with nx:=N,b:=N,c:=D.nx} c j):=by
 refine⟨λi m O H=>m=xs.length-i/\i<=xs.length/\h i O H,⟨xs.length,by simp,bt _,s⟩,?_⟩;rintro i m O H ⟨rfl,k,p⟩;have q:=B i O H k p
 by_cases d:i<xs.length
 .refine .inr ⟨⟨xs,xs[i],q,by simp[d]⟩,h (i+1),λf b I=>⟨xs.length-(i+1),by lia,rfl,d,I⟩,λx b y=>?_⟩;obtain⟨e,y⟩:=y;subst e;exact G i x O _ (y xs q) p
 .have e:i=xs.length:=by lia
  subst e;exact .inl ⟨⟨xs,q,am _⟩,l O H p⟩
theorem S7{g:TG}{O:pz}(h:Nat->pz->Hp->Prop)(l:h 0 O H)
 (B:∀i O H,i<n->h i O H->g (.a (lo+i)) O H λa j=>tb {D with nx:=h (i+1),b:=h (i+1),c:=D.nx} a j) (k:∀O H,h n O H->D.nx O H):
 ∃W:Nat->Nat->pz->Hp->Prop,(∃m,W 0 m O H)/\∀i m O H,W i m O H->
  ((uS lo n).a i H/\D.nx O H)\/((uS lo n).d i H/\∃N:pz->Hp->Prop,(∀c b,N c b->∃z,z<m/\W (i+1) z c b)/\∀x b,(uS lo n).c i H x b->g x O b λa j=>tb {D with nx:=N,b:=N,c:=D.nx} a j):=by
 refine⟨λi m O H=>m=n-i/\i<=n/\h i O H,⟨n,by simp,bt _,l⟩,?_⟩;rintro i m O H ⟨rfl,f,p⟩
 by_cases d:i<n
 .refine .inr ⟨d,h (i+1),λc b G=>⟨n-(i+1),by lia,rfl,d,G⟩,λx b y=>?_⟩;obtain⟨e,y⟩:=y;subst e y;exact B i O _ d p
 .have e:i=n:=by lia
  subst e;exact .inl ⟨am _,k O H p⟩
abbrev R2:=V->V->Hp->VK->Prop
def pZ(X:Cx)(f:ai->ai->Sem ai)(r:R2):Prop:=
 ∀ (pb:List (ay×Obj)) (s:ak) (a:pz) (H:Hp) (x y:V) (v u:ai) (Q:VK),Inv X pb a H s->RelV x v->RelV y u->r x y H Q->
   aO (aV X.d X.w) X.A (f v u) (EP X pb a Q) X.xe s
def yI(X:Cx)(f:ai->Sem ai)(r:V->Hp->VK->Prop):Prop:=
 ∀ (pb:List (ay×Obj)) (s:ak) (a:pz) (H:Hp) (x:V) (v:ai) (Q:VK),Inv X pb a H s->RelV x v->r x H Q->
   aO (aV X.d X.w) X.A (f v) (EP X pb a Q) X.xe s
def pH(X:Cx)(f:ai)(r:gr->Hp->VK->Prop):Prop:=
 ∀ (pb:List (ay×Obj)) (s:ak) (a:pz) (H:Hp) (b:gr) (d:List ai) (Q:VK),Inv X pb a H s->Vals b d->r b H Q->
   aO (aV X.d X.w) X.A (call f d) (EP X pb a Q) X.xe s
def Z0(X:Cx)(r:V->Hp->(Bool->Hp->Prop)->Prop):Prop:=
 ∀ (pb:List (ay×Obj)) (s:ak) (a:pz) (H:Hp) (x:V) (v:ai) (Q:Bool->Hp->Prop),Inv X pb a H s->RelV x v->r x H Q->
   aO (aV X.d X.w) X.A (truthy v) (TP X pb a Q) X.xe s
def uc(r:R2)(b h:TE):TE:=λa H Q=>b a H λx d=>h a d λy e=>r x y e Q
def yT(r:V->Hp->VK->Prop)(b:TE):TE:=λa H Q=>b a H λx d=>r x d Q
def rI(C:Int->Int->Prop)(g:Int->Int->V):R2:=λx y H Q=>∃i j,x= .a i/\y= .a j/\C i j/\Q (g i j) H
def vU(g:Int->Int->V):R2:=λx y H Q=>∃i j,x= .a i/\y= .a j/\Q (g i j) H
def rU(g:Int->V):V->Hp->VK->Prop:=λx H Q=>∃i,x= .a i/\Q (g i) H
section
variable{b c:dH}{tb tc:TE}{pos:Pos}
def JM(B:PE X a ta)(G:PE X b tb){s:ak}{O:pz}(I:Inv X pb O H s)
 (h:ta O H λx z=>tb O z λy d=>R x y d) {Q:ai->ak->Prop} {f:ai->ai->Sem ai}
 (J:∀v u j x y d,Inv X pb O d j->RelV x v->RelV y u->R x y d->aO (aV X.d X.w) X.A (f v u) Q X.xe j):
 aO (aV X.d X.w) X.A (eval a X.a) (λv e=>aO (aV X.d X.w) X.A (eval b X.a) (λu i=>aO (aV X.d X.w) X.A (f v u) Q X.xe i) X.xe e) X.xe s:=by
 refine zz (B pb s O H _ I h) λv L x z M P S=>?_;refine zz (G pb L O z _ M S) λu j y d T U Y=>?_;exact J v u j x y d T P U Y
def AI{op:kb}{r:R2}(d:pZ X (eN op) r)(e:PE X a ta)(i:PE X b tb):PE X (.BinOp a op b pos) (uc r ta tb):=by
 intro f s c H Q I h;exact wpAny_BinOp (JM e i I h λv u j x y z B G J q=>d f j c z x y v u Q B G J q)
def Bo{op:UnaryOp}(d:yI X (unaryOp op) r)(e:PE X a ta):PE X (.UnaryOp op a pos) (yT r ta):=by
 intro c s b H Q I h;exact UnaryOp_ (zz (e c s b H _ I h) λv i x j y z B=>d c i b j x v Q y z B)
def xh
 (k:∀ (i j:Int) (t u:Tok) (s:ak) (Q:ai->ak->Prop) (E:ai->ak->Prop),C i j->Q (.int (g i j) s.toks) {s with toks:=s.toks+1}->aO (aV X.d X.w) X.A (f (.int i t) (.int j u)) Q E s):
 pZ X f (rI C λi j=> .a (g i j)):=by
 intro b s a H x y v u Q I d e h;obtain⟨i,j,rfl,rfl,z,q⟩:=h;obtain⟨t,rfl⟩:=d;obtain⟨B,rfl⟩:=e;exact k i j t B s _ _ z ⟨.a (g i j),H,I.Z _,⟨_,rfl⟩,q⟩
def PK
 (k:∀ (i j:Int) (t u:Tok) (s:ak) (Q:ai->ak->Prop) (E:ai->ak->Prop),Q (.int (g i j) s.toks) {s with toks:=s.toks+1}->aO (aV X.d X.w) X.A (f (.int i t) (.int j u)) Q E s):
 pZ X f (vU λi j=> .a (g i j)):=by
 intro b s a H x y v u Q I d e h;obtain⟨i,j,rfl,rfl,q⟩:=h;obtain⟨t,rfl⟩:=d;obtain⟨z,rfl⟩:=e;exact k i j t z s _ _ ⟨.a (g i j),H,I.Z _,⟨_,rfl⟩,q⟩
def GX{g:Int->Int->Bool}
 (k:∀ (i j:Int) (t u:Tok) (s:ak) (Q:ai->ak->Prop) (E:ai->ak->Prop),Q (.bool (g i j)) s->aO (aV X.d X.w) X.A (f (.int i t) (.int j u)) Q E s):
 pZ X f (vU λi j=> .c (g i j)):=by
 intro b s a H x y v u Q I d e h;obtain⟨i,j,rfl,rfl,q⟩:=h;obtain⟨t,rfl⟩:=d;obtain⟨z,rfl⟩:=e;exact k i j t z s _ _ ⟨.c (g i j),H,I,rfl,q⟩
def Z1(i j:Int):Prop:=0<j/\j<1073741824
def Ph(i j:Int):Prop:=0<=j/\j<=1000000/\i.natAbs<2^64
def vy(i j:Int):Prop:=(-(2^64)<i/\i<2^64)\/(-(2^64)<j/\j<2^64)
def vy.J{i j:Int}(h:vy i j):IntMulOk i j:=by
 rcases h with⟨b,a⟩|⟨b,a⟩
 .exact .of_left (intBits_le_64 b a)
 .exact .of_right (intBits_le_64 b a)
def wV:pZ X (eN .Add) (vU λi j=> .a (i+j)):=PK λ_ _ _ _ _ _ _ q=>add_int q
def Nl:pZ X (eN .Sub) (vU λi j=> .a (i-j)):=PK λ_ _ _ _ _ _ _ q=>sub_int q
def wR:pZ X (eN .Mult) (rI vy λi j=> .a (i*j)):=xh λ_ _ _ _ _ _ _ d q=>mul_int q d.J
theorem Mp:pZ X (eN .FloorDiv) (rI Z1 λi j=> .a (i/j)):=xh λi j _ _ _ _ _ d q=>by
 have e:(0:Int)<j:=d.1;have x:j<1073741824:=d.2;exact floordiv_int oZ (by rw[iy i oZ];exact q) (.inl (jA oZ))
def Da:pZ X (eN .Mod) (rI (λ_ j=>0<j) λi j=> .a (i%j)):=xh λi j _ _ _ _ _ d q=>by
 have e:(0:Int)<j:=d;exact mod_int' oZ (by rw[Int.fmod_eq_emod_of_nonneg i oZ];exact q)
def Nn:pZ X (eN .Pow) (rI Ph λi j=> .a (i^j.toNat)):=xh λ_ _ _ _ _ _ _ d q=>pow_int_small d.1 d.2.1 d.2.2 q
def zj{f:ai->Sem ai}{g:Int->Int}
 (k:∀ (i:Int) (t:Tok) (s:ak) (Q:ai->ak->Prop) (E:ai->ak->Prop),Q (.int (g i) s.toks) {s with toks:=s.toks+1}->aO (aV X.d X.w) X.A (f (.int i t)) Q E s):
 yI X f (rU λi=> .a (g i)):=by
 intro b s a H x v Q I d h;obtain⟨i,rfl,q⟩:=h;obtain⟨t,rfl⟩:=d;exact k i t s _ _ ⟨.a (g i),H,I.Z _,⟨_,rfl⟩,q⟩
def Bi:yI X (unaryOp .USub) (rU λi=> .a (-i)):=zj λ_ _ _ _ _ q=>neg_int q
end
def O7:V->V->Bool
 | .d, .d=>aw| .d, .a _=>aw| .a _, .d=>aw| .d, .c _=>aw| .c _, .d=>aw| .d, .e _=>aw| .e _, .d=>aw
 | .a _, .a _=>aw| .c _, .c _=>aw| .e _, .e _=>aw| .f _, .f _=>aw
 | .a _, .e _=>aw| .e _, .a _=>aw| .c _, .e _=>aw| .e _, .c _=>aw
 |_,_=>au
def yY:R2:=λx y H Q=>O7 x y=aw/\Q (.c (decide (x=y))) H
def yX:R2:=λx y H Q=>O7 x y=aw/\Q (.c (!decide (x=y))) H
def Fu{i j:Int}:decide (V.a i=V.a j)=(i==j):=by
 rw[fe];simp
def N8{i j:Bool}:decide (V.c i=V.c j)=(i==j):=by
 rw[fe];simp
def NA{i j:Str}:decide (V.e i=V.e j)=(i==j):=by
 rw[fe];simp
def NB{i j:Array UInt8}:decide (V.f i=V.f j)=(i.toList==j.toList):=by
 rw[fe]
 cases i
 cases j
 simp
section
variable{b c:dH}{tb tc:TE}{pos:Pos}
def Ap{O:pz}{s:ak}{Q:VK}{k h:Bool}(I:Inv X pb O H s)(q:Q (.c k) H)(e:k=h):EP X pb O Q (.bool h) s:=by
 subst e;exact⟨.c k,H,I,rfl,q⟩
def xH:pZ X (bu .Eq) yY:=by
 intro b s a H x y v u Q I B d h;obtain⟨z,q⟩:=h
 cases x with
 |d=>
  cases B
  cases y with
  |d=>cases d;exact PySem.EqNone.eq_none_none (Ap I q (by simp))
  |c j=>cases d;exact PySem.EqNone.eq_none_bool (Ap I q (by simp))
  |a j=>obtain⟨e,rfl⟩:=d;exact PySem.EqNone.eq_none_int (Ap I q (by simp))
  |e j=>obtain⟨e,rfl⟩:=d;exact PySem.EqNone.eq_none_str (Ap I q (by simp))
  |_=>exact absurd (show au=aw from z) av
 |c i=>
  cases B
  cases y with
  |d=>cases d;exact PySem.EqNone.eq_bool_none (Ap I q (by simp))
  |c j=>cases d;exact eq_bool (Ap I q N8)
  |e j=>obtain⟨e,rfl⟩:=d;exact PySem.EqMixed.eq_bool_str (Ap I q (by simp))
  |_=>exact absurd (show au=aw from z) av
 |a i=>
  obtain⟨t,rfl⟩:=B
  cases y with
  |d=>cases d;exact PySem.EqNone.eq_int_none (Ap I q (by simp))
  |a j=>obtain⟨e,rfl⟩:=d;exact eq_int (Ap I q Fu)
  |e j=>obtain⟨e,rfl⟩:=d;exact PySem.EqMixed.eq_int_str (Ap I q (by simp))
  |_=>exact absurd (show au=aw from z) av
 |e i=>
  obtain⟨t,rfl⟩:=B
  cases y with
  |d=>cases d;exact PySem.EqNone.eq_str_none (Ap I q (by simp))
  |c j=>cases d;exact PySem.EqMixed.eq_str_bool (Ap I q (by simp))
  |a j=>obtain⟨e,rfl⟩:=d;exact PySem.EqMixed.eq_str_int (Ap I q (by simp))
  |e j=>obtain⟨e,rfl⟩:=d;exact eq_str (Ap I q NA)
  |_=>exact absurd (show au=aw from z) av
 |f i=>
  obtain⟨t,rfl⟩:=B
  cases y with
  |f j=>obtain⟨e,rfl⟩:=d;exact W.eq_bytes (Ap I q NB)
  |_=>exact absurd (show au=aw from z) av
 |_=>cases y<;>exact absurd (show au=aw from z) av
def xG:pZ X (bu .NotEq) yX:=by
 intro b s a H x y v u Q I B d h;obtain⟨z,q⟩:=h
 cases x with
 |d=>
  cases B
  cases y with
  |d=>cases d;exact PySem.EqNone.ne_none_none (Ap I q (by simp))
  |c j=>cases d;exact PySem.EqNone.ne_none_bool (Ap I q (by simp))
  |a j=>obtain⟨e,rfl⟩:=d;exact PySem.EqNone.ne_none_int (Ap I q (by simp))
  |e j=>obtain⟨e,rfl⟩:=d;exact PySem.EqNone.ne_none_str (Ap I q (by simp))
  |_=>exact absurd (show au=aw from z) av
 |c i=>
  cases B
  cases y with
  |d=>cases d;exact PySem.EqNone.ne_bool_none (Ap I q (by simp))
  |c j=>cases d;exact ne_bool (Ap I q (cx not N8))
  |e j=>obtain⟨e,rfl⟩:=d;exact PySem.EqMixed.ne_bool_str (Ap I q (by simp))
  |_=>exact absurd (show au=aw from z) av
 |a i=>
  obtain⟨t,rfl⟩:=B
  cases y with
  |d=>cases d;exact PySem.EqNone.ne_int_none (Ap I q (by simp))
  |a j=>obtain⟨e,rfl⟩:=d;exact ne_int (Ap I q (cx not Fu))
  |e j=>obtain⟨e,rfl⟩:=d;exact PySem.EqMixed.ne_int_str (Ap I q (by simp))
  |_=>exact absurd (show au=aw from z) av
 |e i=>
  obtain⟨t,rfl⟩:=B
  cases y with
  |d=>cases d;exact PySem.EqNone.ne_str_none (Ap I q (by simp))
  |c j=>cases d;exact PySem.EqMixed.ne_str_bool (Ap I q (by simp))
  |a j=>obtain⟨e,rfl⟩:=d;exact PySem.EqMixed.ne_str_int (Ap I q (by simp))
  |e j=>obtain⟨e,rfl⟩:=d;exact ne_str (Ap I q (cx not NA))
  |_=>exact absurd (show au=aw from z) av
 |f i=>
  obtain⟨t,rfl⟩:=B
  cases y with
  |f j=>obtain⟨e,rfl⟩:=d;exact W.ne_bytes (Ap I q (cx not NB))
  |_=>exact absurd (show au=aw from z) av
 |_=>cases y<;>exact absurd (show au=aw from z) av
def E7:pZ X (bu .Lt) (vU λi j=> .c (decide (i<j))):=GX λ_ _ _ _ _ _ _ q=>lt_int q
def Ce:pZ X (bu .LtE) (vU λi j=> .c (decide (i<=j))):=GX λ_ _ _ _ _ _ _ q=>le_int q
def Cf:pZ X (bu .Gt) (vU λi j=> .c (decide (j<i))):=GX λ_ _ _ _ _ _ _ q=>gt_int q
def OX:pZ X (bu .GtE) (vU λi j=> .c (decide (j<=i))):=GX λ_ _ _ _ _ _ _ q=>ge_int q
def SX:pZ X (bu .In) (λx y H Q=>∃i j,x= .e i/\y= .e j/\Q (.c (!(cc j i 0 j.length 1).isEmpty)) H):=by
 intro b s a H x y v u Q I d e h;obtain⟨i,j,rfl,rfl,q⟩:=h;obtain⟨t,rfl⟩:=d;obtain⟨z,rfl⟩:=e;exact in_str (Ap I q rfl)
def QS:pZ X (bu .NotIn) (λx y H Q=>∃i j,x= .e i/\y= .e j/\Q (.c (!(!(cc j i 0 j.length 1).isEmpty))) H):=by
 intro b s a H x y v u Q I d e h;obtain⟨i,j,rfl,rfl,q⟩:=h;obtain⟨t,rfl⟩:=d;obtain⟨z,rfl⟩:=e;exact notIn_str (Ap I q rfl)
def pZ.J{r k:R2}(h:pZ X f r)(h':pZ X f k):pZ X f (λx y H Q=>r x y H Q\/k x y H Q):=by
 intro b s a H x y v u Q I d e q;rcases q with q|q
 .exact h b s a H x y v u Q I d e q
 .exact h' b s a H x y v u Q I d e q
def Nr(b:dH){op:nK}(h:op≠ .In<|>pu)(d:op≠ .NotIn<|>pu):fi op b=au:=by
 have e:(op==CmpOp.In)=au:=by cases op<;>first|rfl|exact absurd rfl h
 have i:(op==CmpOp.NotIn)=au:=by cases op<;>first|rfl|exact absurd rfl d
 cases b<;>simp[fi,e,i]
def V4{op:nK}{r:R2}(d:pZ X (bu op) r)(e:PE X a ta)(i:PE X b tb)(j:fi op b=au):PE X (.Compare a [op] [b] pos) (uc r ta tb):=by
 intro f s c H Q I h;exact wpAny_Compare1 (JM e i I h λv u z x y B G J L q=>d f z c B x y v u Q G J L q) j
def D5(t:TE):TT:=λa H Q=>t a H λx d=>∃k,x= .c k/\Q k d
def Vo{op:nK}{r:R2}(d:pZ X (bu op) r)(i:PE X a ta)(j:PE X b tb)(B:fi op b=au):PT X (.Compare a [op] [b] pos) (D5 (uc r ta tb)):=by
 intro g s f H Q I h;refine jF (zz (i g s f H _ I h) λv G x J L M P=>zz (j g G f J _ L P) λu R y S T U Y=>
  pB (d g R f S x y v u _ T M U Y) λc o z=>?_) B;obtain⟨z,Z,n,l,k,e,m⟩:=z
 subst e
 cases l
 exact cI ⟨Z,n,m⟩
def IM(r e:R2)(m l h:TE):TE:=λa H Q=>m a H λx i=>l a i λy j=>r x y j λz d=>∃k,z= .c k/\
 (if k=aw then h a d λB G=>e y B G Q else Q (.c au) d)
def Uc{op:nK}{r l:R2}(L:pZ X (bu op) r)(i:pZ X (bu op') l)(M:PE X a ta)(P:PE X b tb)(R:PE X c tc)
 (S:lastMarks [op,op'] [b,c]=au<|>rq):PE X (.Compare a [op,op'] [b,c] pos) (IM r l ta tb tc):=by
 intro g s f H Q I h;refine Compare_chain (zz (M g s f H _ I h) λv T x U Y Z D=>chain_link (zz (P g T f U _ Y D) λu q y O K j C=>
  pB (L g q f O x y v u _ K Z j C) λd p z=>?_)) S;obtain⟨z,B,G,w,k,e,J⟩:=z
 subst e
 cases w
 refine cI ?_
 cases k with
 |false=>exact ite_ff ⟨.c au,B,G,rfl,J⟩
 |true=>exact ite_tt (chain_last (zz (R g p f B _ G J) λn o m N E t A=>i g o f N y m u n Q E j t A))
def FX{op:nK}{r l:R2}(L:pZ X (bu op) r)(i:pZ X (bu op') l)(M:PE X a ta)(P:PE X b tb)(R:PE X c tc)
 (S:lastMarks [op,op'] [b,c]=au<|>rq):PT X (.Compare a [op,op'] [b,c] pos) (D5 (IM r l ta tb tc)):=by
 intro g s f H Q I h;refine isTrue_chain (zz (M g s f H _ I h) λv T x U Y Z N=>test_link (zz (P g T f U _ Y N) λu t y H2 I2 j K=>
  pB (L g t f H2 x y v u _ I2 Z j K) λd q z=>?_)) S;obtain⟨z,B,G,C,k,e,J⟩:=z
 subst e
 cases C
 refine cI ?_
 cases k with
 |false=>
  obtain⟨k',e',O⟩:=J
  cases e'
  exact ite_ff ⟨B,G,O⟩
 |true=>
  refine ite_tt (test_last (zz (R g q f B _ G J) λo p n H4 I4 A E=>pB (i g p f H4 y n u o _ I4 j A E) λd' s5 m=>?_));obtain⟨z2,H5,I5,w,k2,V,D⟩:=m;subst V
  cases w
  exact cI ⟨H5,I5,D⟩
def Dn(K:aB)(x:V)(H:Hp)(k:Bool):Prop:=
 match x with
 | .d=>k=au
 | .c b=>k=b
 | .a i=>k=(i !=0)
 | .e y=>y.length<=sizeLine/\k=((y.length:Int) !=0)
 | .f y=>y.size<=sizeLine/\k=((y.size:Int) !=0)
 | .b p=>(∃d,pq K H p d/\k= !d.isEmpty)\/(∃d,pX K H p d/\k= !d.isEmpty)\/∃ph,H p=ae (.d ph)/\k= !ph.isEmpty
 |_=>False
def Ro{h:Type}{ph:List (h×V)}{vs:List (h×ai)}(r:KV ph vs):(!vs.isEmpty)= !ph.isEmpty:=by
 cases r<;>rfl
def KA(r:Vals xs its):(!its.toArray.isEmpty)= !xs.isEmpty:=by
 cases r<;>simp
def qk:(sizeLine:Nat)<2^63:=by rw[bV];decide
def Wh:Z0 X (λx H Q=>∃k,Dn X.K x H k/\Q k H):=by
 intro f s c H x v Q I B h;obtain⟨k,e,q⟩:=h;have S:=qk;have T:sizeLine=16777216:=bV
 cases x with
 |d=>
  cases B
  have d:k=au:=e;subst d;exact truthy_none ⟨H,I,q⟩
 |c b=>
  cases B
  have d:k=b:=e;subst d;exact cI ⟨H,I,q⟩
 |a i=>
  obtain⟨t,rfl⟩:=B;have d:k=(i !=0):=e;subst d;exact PySem.P.truthy_int ⟨H,I,q⟩
 |e y=>
  obtain⟨t,rfl⟩:=B;obtain⟨M,d⟩:y.length<=sizeLine/\k=((y.length:Int) !=0):=e;subst d;exact PySem.P.truthy_str oZ ⟨H,I.Z _,q⟩
 |f y=>
  obtain⟨t,rfl⟩:=B;obtain⟨M,d⟩:y.size<=sizeLine/\k=((y.size:Int) !=0):=e;subst d;exact W.truthy_bytes oZ ⟨H,I.Z _,q⟩
 |b p=>
  cases B
  have d:(∃z,pq X.K H p z/\k= !z.isEmpty)\/(∃z,pX X.K H p z/\k= !z.isEmpty)\/∃ph,H p=ae (.d ph)/\k= !ph.isEmpty:=e;rcases d with⟨z,a,d⟩|⟨z,a,d⟩|⟨ph,a,d⟩
  .subst d;obtain⟨G,r,J,L⟩:=I.J a;have j:=r.J;exact wpAny_truthy_list J.isList (by simp only[aA];lia) ⟨H,I.Z _,by rw[KA r];exact q⟩
  .subst d;obtain⟨G,r,J,L⟩:=I.mt a;have j:=r.J;exact truthy_tuple J (by simp only[aA];lia) ⟨H,I.Z _,by rw[KA r];exact q⟩
  .subst d;obtain⟨L,R,vs,r,m⟩:ph.length<=sizeLine/\(p==bL)=au/\∃vs,KV ph vs/\s.heap.DictOf (An X.d X.w) p vs:=I.a p _ a;have j:ph.length=vs.length:=jf r;exact wpAny_truthy_dict R m oZ ⟨H,I.Z _,by rw[Ro r];exact q⟩
 |_=>exact(show False from e).elim
def UM(e:PE X a ta)(i:∀b,kT a X.a b=(do let v<-b;hU a.pos;gQ [v] (truthy v))):
 PT X a (λO H Q=>ta O H λx d=>∃k,Dn X.K x d k/\Q k d):=by
 intro c s O H Q I h;exact isTrue_plain (zz (e c s O H _ I h) λv j x y z B G=>Wh c j O y x v Q z B G) (i _)
def RX:pZ X (eN .Add) (λx y H Q=>∃i j,x= .e i/\y= .e j/\i.length+j.length<=sizeLine/\Q (.e (i++j)) H):=by
 intro b s a H x y v u Q I d e h;obtain⟨i,j,rfl,rfl,z,q⟩:=h;obtain⟨t,rfl⟩:=d;obtain⟨B,rfl⟩:=e;exact add_str (λB G=>⟨.e (i++j),H,I.Z _,⟨_,rfl⟩,q⟩) z
def vals1(r:Vals [x] us):∃u,us=[u]/\RelV x u:=by
 cases r with
 |cons d e=>cases e;exact⟨_,rfl,d⟩
def vals2(r:Vals [x,y] us):∃u a,us=[u,a]/\RelV x u/\RelV y a:=by
 cases r with
 |cons d e=>
  cases e with
  |cons i j=>cases j;exact⟨_,_,rfl,d,i⟩
def TZ(x:X.calm=aw):pH X (.builtin "max") (λe H Q=>∃i j,e=[.a i, .a j]/\Q (.a (if j>i then j else i)) H):=by
 intro b s a H e y Q I r h;obtain⟨i,j,rfl,q⟩:=h;obtain⟨u,z,rfl,⟨t,rfl⟩,⟨B,rfl⟩⟩:=vals2 r;refine max_two_ints (I.e.k x) λG J k=>⟨_,H,I.ap k,?_,q⟩
 by_cases d:j>i
 .rw[aU d,aU d];exact⟨_,rfl⟩
 .rw[aP d,aP d];exact⟨_,rfl⟩
def TY(x:X.calm=aw):pH X (.builtin "min") (λe H Q=>∃i j,e=[.a i, .a j]/\Q (.a (if j<i then j else i)) H):=by
 intro b s a H e y Q I r h;obtain⟨i,j,rfl,q⟩:=h;obtain⟨u,z,rfl,⟨t,rfl⟩,⟨B,rfl⟩⟩:=vals2 r;refine min_two_ints (I.e.k x) λG J k=>⟨_,H,I.ap k,?_,q⟩
 by_cases d:j<i
 .rw[aU d,aU d];exact⟨_,rfl⟩
 .rw[aP d,aP d];exact⟨_,rfl⟩
def Td:pH X (.type "int") (λd H Q=>(∃i,d=[.a i]/\Q (.a i) H)\/∃k,d=[.c k]/\Q (.a (if k then 1 else 0)) H):=by
 intro b s a H d j Q I r h;rcases h with⟨i,rfl,q⟩|⟨k,rfl,q⟩
 .obtain⟨u,rfl,t,rfl⟩:=vals1 r;exact call_int_int ⟨.a i,H,I,⟨_,rfl⟩,q⟩
 .obtain⟨u,rfl,e⟩:=vals1 r
  cases e
  exact call_int_bool ⟨.a (if k then 1 else 0),H,I.Z _,⟨_,rfl⟩,q⟩
end
structure tY (h:dg) (x dx C:ay) (mA:Str->Option ai):Prop where
 a:h.get? x=ae (W.instObj C dx)
 b:h.Ns1 dx mA
 c:dx≠x
set_option tactic.hygienic true in
def Sj{h:dg}(n:h.Ns1 dx mA):∃d,h.get? dx=ae d/\∀name,W.lookIn name d=ae (mA name):=by
 obtain⟨o,i,H,j,c,hk,_,x⟩:=n;refine⟨o,j,λname=>?_⟩;have e:=x name;unfold nsFind findBy at e;rw[<-Array.find?_toList]at e;unfold W.lookIn;rw[c]
 dsimp only
 split
 .rename_i y q
  rw[q]at e;exact cx ae e
 .rename_i q
  rw[q]at e;have a:i.toList.any (·.refKey)=au:=by
   rw[List.any_eq_false];intro y B;obtain⟨z,t,b⟩:=hk y (Array.mem_toList_iff.mp B);simp[DictEntry.refKey,b]
  have G:¬i.toList.any (·.refKey)=aw:=by rw[a];exact av
  rw[aP G];exact cx ae e
def tY.J{h:dg}{x C:ay}(I:tY h x dx C mA):∃b,W.InstAt h x (W.instObj C dx) C (ae b)/\∀name,W.lookIn name b=ae (mA name):=
 let⟨b,d,e⟩:=Sj I.b
 ⟨b,⟨I.a,rfl,rfl,d⟩,e⟩
section
variable{s:ak}{x C f:ay}{name:Str}{v:ai}
def WO{k:Bool}{Q:ai->ak->Prop}(X:K.In s.heap)(I:tY s.heap x dx C mA)(l:W.plainGet K C name=aw)(d:W.hasDictIn K C=aw)
 (e:W.findIn K (.ref C) name=ae none) (i:mA name=ae v) (b:W.handedIn v=aw) (h:Q v {s with toks:=s.toks+1}):
 aO (aV prog w) A (getAttr (.ref x) name k) Q E s:=by
 obtain⟨y,J,j⟩:=I.J;exact W.get_value X J (W.plainGet_of l).1 (W.findObj_own d e rfl (by rw[j,i])) b h
def Us(X:K.In s.heap)(I:tY s.heap x dx C mA)(k:W.plainGet K C name=aw)
 (b:W.findIn K (.ref C) name=ae (ae (.ref f))) (l:W.isFn K (.ref f)=aw) (d:mA name=none) (h:Q (.ref f,[.ref x]) s):
 aO (aV prog w) A (iT (.ref x) name pl) Q E s:=by
 obtain⟨e,J,i⟩:=I.J;exact W.method_fn X J (W.plainGet_of k).1 (W.plainGet_of k).2 b (bP.mp l) (by show(W.lookIn name e).map (·.isSome)=ae au;rw[i,d];rfl) h
def VI{Q:Unit->ak->Prop}(X:K.In s.heap)(I:tY s.heap x dx C mA)
 (H:W.findIn K (.ref C) "__setattr__"=ae (ae (.builtin "object.__setattr__"))) (L:W.plainOver K C=aw) (k:W.takerIn K C name=ae none) (M:W.hasDictIn K C=aw)
 (P:lW mA ns) (hsz:ns.length<=sizeLine)
 (h:∀i,tY i x dx C (λy=>if y=name then ae v else mA y)->bC dx s.heap i->Q () {s with heap:=i,toks:=s.toks+2}):
 aO (aV prog w) A (setAttr (.ref x) name v) Q E s:=by
 obtain⟨Y,J,Z⟩:=I.J;refine W.set_plain X J H (W.osa_open (s:={s with toks:=s.toks+1}) (r:=none) X J L k λb=>?_);obtain⟨f,R,j⟩:=W.any_some M;have S:s.heap.get? x=ae ⟨.ref C,ae dx, .plain,#[]⟩:=I.a;refine ac (ah (ac (ac (ko S (ac (W.Looks.here (s:={s with toks:=s.toks+1}) (W.looks_clsIn X R) ?_))))));rw[j];refine ah (a:=ae dx) (ac (ah (ac ?_)));refine wpAny_nsSet1 (s:={s with toks:=s.toks+1}) I.b λi d e=>?_;obtain⟨c,T,U,z,B,G⟩:=d.count (PySem.Within.cons name v P);refine ac (wpAny_lookBehind z (by rw[B];exact pastItsLine_dict (bw G (by rw[aJ];lia))) ?_);exact ah (h _ ⟨(e.2 _ (cV I.c)).trans I.a,d,I.c⟩ e)
def Uj{R:nZ->ak->Prop}{vs:List ai}(X:K.In s.heap)(b:W.makesIn K C=aw)
 (k:W.findIn K (.ref C) "__init__"=ae (ae (.ref f))) (e:W.typeIn K (.ref f)=ae (.type "function"))
 (h:dM (aV prog w) (A.under (.builtin "type.__call__" ⟨.ref C::vs,kw⟩)) (.call (.ref f) ⟨.ref (s.1.1.size+1)::vs,kw⟩) (W.InitBack (s.1.1.size+1) R)
   {s with heap:=(s.heap.push W.emptyDict).push (W.instObj C s.1.1.size)}):
 dM (aV prog w) A (.call (.ref C) ⟨vs,kw⟩) R s:=by
 obtain⟨i,g,d,t,c⟩:=s;exact W.make_core (W.makes_of X b) (W.looks_findIn X k) (λa=>W.bind_fn X a e) (.inl rfl) h
end
def Aw(f:Str)(v:V):List (Str×V)->List (Str×V)
 |[]=>[(f,v)]
 |(g,x)::r=>if g=f then(g,v)::r else(g,x)::Aw f v r
theorem Jr(f g:Str)(v:V):∀a:List (Str×V),(Aw f v a).lookup g=if g=f then ae v else a.lookup g
 |[]=>by
  show eL g [(f,v)]=_
  by_cases h:g=f
  .have b:(g==f)=aw:=bP.mpr h;simp only[eL,b,aU h]
  .have b:(g==f)=au:=dq.mpr h;simp only[eL,b,aP h]
 |(k,x)::r=>by
  have d:=Jr f g v r;rw[show Aw f v ((k,x)::r)=(if k=f then(k,v)::r else(k,x)::Aw f v r)from rfl]
  by_cases hk:k=f
  .rw[aU hk]
   by_cases h:g=k
   .have b:(g==k)=aw:=bP.mpr h;simp only[eL,b,aU (h.trans hk)]
   .have b:(g==k)=au:=dq.mpr h;simp only[eL,b,aP (λe:g=f=>h (e.trans hk.symm))]
  .rw[aP hk]
   by_cases h:g=k
   .have b:(g==k)=aw:=bP.mpr h;simp only[eL,b,aP (λe:g=f=>hk (h.symm.trans e))]
   .have b:(g==k)=au:=dq.mpr h;simp only[eL,b];exact d
theorem Gy(f:Str)(v:V):∀a:List (Str×V),f∈(Aw f v a).map (·.1)/\∀g,g∈a.map (·.1)->g∈(Aw f v a).map (·.1)
 |[]=>⟨by simp[Aw],λg h=>by simp at h⟩
 |(k,x)::r=>by
  obtain⟨b,d⟩:=Gy f v r;rw[show Aw f v ((k,x)::r)=(if k=f then(k,v)::r else(k,x)::Aw f v r)from rfl]
  by_cases hk:k=f
  .rw[aU hk];subst hk;exact⟨by simp,λg h=>by simpa using h⟩
  .rw[aP hk];refine⟨?_,λg h=>?_⟩
   .rw[aY];exact aM _ b
   .rw[aY]at h⊢;rcases aL.mp h with e|e
    .exact List.mem_cons.mpr (.inl e)
    .exact aM _ (d g e)
theorem Js(f:Str)(v:V):∀fs:List (Str×V),(Aw f v fs).length<=fs.length+1
 |[]=>by simp[Aw]
 |(k,x)::r=>by
  have b:=Js f v r;rw[show Aw f v ((k,x)::r)=(if k=f then(k,v)::r else(k,x)::Aw f v r)from rfl]
  by_cases hk:k=f
  .rw[aU hk,aJ,aJ];lia
  .rw[aP hk,aJ,aJ];lia
def ql.J{v:V}(r:ql (ae v) o):∃u,o=ae u/\RelV v u:=by
 cases o with
 |none=>exact(show False from r).elim
 |some u=>exact⟨u,rfl,r⟩
def ql.Z(r:ql none o):o=none:=by
 cases o with
 |none=>rfl
 |some u=>exact(show False from r).elim
def S6{v:V}{u:ai}(r:RelV v u):W.handedIn u=aw:=by
 cases v with
 |d=>cases(show u=dr from r);rfl
 |c b=>cases(show u=eY b from r);rfl
 |a i=>obtain⟨t,e⟩:=(show∃t,u=fW i t from r);cases e;rfl
 |e x=>obtain⟨t,e⟩:=(show∃t,u=cY x t from r);cases e;rfl
 |f b=>obtain⟨t,e⟩:=(show∃t,u=ow b t from r);cases e;rfl
 |g b=>obtain⟨t,e⟩:=(show∃t,u=mO b t from r);cases e;rfl
 |b a=>cases(show u=aj a from r);rfl
 |h n=>cases(show u=dY n from r);rfl
section
variable{h:dg}{a C:ay}{fs fs':List (Str×V)}
def Fp(k:qG P w H h)(e:H a=ae (.c C dx fs)):∃b,tY h a dx C b/\(∀f,ql (fs.lookup f) (b f))/\lW b (fs.map (·.1))/\fs.length<=1000/\H dx=ae (.f a):=by
 obtain⟨d,z,g,c,b,n,r,q⟩:=(show pE P w H h a (.c C dx fs)from k a _ e);exact⟨b,⟨c,n,g⟩,r,q,z,d⟩
end
structure sM (K:aB) (C:ay):Prop where
 d:W.plainGet K C cR=aw
 a:W.hasDictIn K C=aw
 c:W.plainOver K C=aw
 b:W.findIn K (.ref C) "__setattr__"=ae (ae (.builtin "object.__setattr__"))
def sM.J{C:ay}(c:sM K C)(f:Str):W.plainGet K C f=aw:=c.d
def qb(K:aB)(C:ay)(f:Str):Prop:=W.findIn K (.ref C) f=ae none
def qb.J{C:ay}{f:Str}(n:qb K C f):W.takerIn K C f=ae none:=by
 unfold W.takerIn;rw[show W.findIn K (.ref C) f=ae none from n]
 rfl
structure Meth (K:aB) (C:ay) (m:Str) (f:ay):Prop where
 a:W.findIn K (.ref C) m=ae (ae (.ref f))
 c:W.isFn K (.ref f)=aw
 b:W.keepIn K (.ref f)=aw
section
variable{O:pz}{s:ak}{a C:ay}{fs:List (Str×V)}{f:Str}{v:V}
def KG{Q:ai->ak->Prop}(I:Inv X pb O H s)(e:H a=ae (.c C dx fs))(c:sM X.K C)(n:qb X.K C f)(l:fs.lookup f=ae v)
 (h:∀u d,Inv X pb O H d->RelV v u->Q u d):aO (aV X.d X.w) A (getAttr (.ref a) f b) Q E s:=by
 obtain⟨j,σ,r,_,_,_⟩:=Fp I.a e;obtain⟨u,x,i⟩:=ql.J (v:=v) (o:=j f) (by rw[<-l];exact r f);exact WO I.qB σ (c.J f) c.a n x (S6 i) (h u _ (I.Z _) i)
def Gm{m:Str}{g:ay}(I:Inv X pb O H s)(e:H a=ae (.c C dx fs))(c:sM X.K C)(k:Meth X.K C m g)(l:fs.lookup m=none)
 (h:Q (.ref g,[.ref a]) s):aO (aV X.d X.w) A (iT (.ref a) m pl) Q E s:=by
 obtain⟨b,σ,r,_,_,_⟩:=Fp I.a e;have d:b m=none:=ql.Z (by rw[<-l];exact r m);exact Us I.qB σ (c.J m) k.a k.c d h
def J3{u:ai}{Q:Unit->ak->Prop}(I:Inv X pb O H s)(e:H a=ae (.c C dx fs))(c:sM X.K C)(n:qb X.K C f)(T:fs.length<1000)(J:RelV y u)
 (h:∀i,Inv X pb O (upd H a (.c C dx (Aw f y fs))) i->Q () i):aO (aV X.d X.w) A (setAttr (.ref a) f u) Q E s:=by
 obtain⟨j,σ,r,B,_,G⟩:=Fp I.a e;have L:(fs.map (·.1)).length<=sizeLine:=by rw[az,bV];lia
 refine VI I.qB σ c.b c.c n.J c.a B L λM d P=>h _ ?_;have l:∃o,M.get? dx=ae o:=let⟨o,_,_,R,_⟩:=d.b;⟨o,R⟩;refine I.write (x:=a) (e:=dx) (by rw[e];exact dL) (.inr G) (λb q S z=>(P.2 b S).trans z) l ?_;refine⟨by rw[AG σ.c];exact G,?_,σ.c,d.a,_,d.b,λg=>?_,λg k=>?_⟩
 .have:=Js f y fs;lia
 .show ql ((Aw f y fs).lookup g) (if g=f then ae u else j g);rw[Jr]
  by_cases q:g=f
  .rw[aU q,aU q];exact J
  .rw[aP q,aP q];exact r g
 .by_cases q:g=f
  .rw[q];exact(Gy f y fs).1
  .refine(Gy f y fs).2 g (B g λz=>k ?_);show(if g=f then ae u else j g)=none;rw[aP q];exact z
def Inv.made(I:Inv X pb O H s):Inv X pb O (upd (upd H s.1.1.size (.f (s.1.1.size+1))) (s.1.1.size+1) (.c C s.1.1.size []))
 {s with heap:=(s.heap.push W.emptyDict).push (W.instObj C s.1.1.size)}:=by
 have d:(s.heap.push W.emptyDict).get? s.1.1.size=ae W.emptyDict:=aq s.heap rfl;have i:((s.heap.push W.emptyDict).push (W.instObj C s.1.1.size)).get? (s.1.1.size+1)=ae (W.instObj C s.1.1.size):=by
  have:=aq (s.heap.push W.emptyDict) (o:=W.instObj C s.1.1.size) rfl;rwa[bK]at this
 have j:(s.heap.push W.emptyDict).Ns s.1.1.size (λ_=>none):=⟨W.emptyDict,#[],_,d,rfl,(λe x=>absurd x b'),λ_=>rfl⟩;have z:=I.mp (a:=s.1.1.size) (o:= .f (s.1.1.size+1)) (h':=s.heap.push W.emptyDict) (t':=s.toks) (λb u q=>af _ q) (am _) ⟨_,d⟩;refine z.mp (a:=s.1.1.size+1) (o:= .c C s.1.1.size []) (t':=s.toks) (λb u q=>af _ q) (gi (bK _ _)) ?_;have c:s.1.1.size≠s.1.1.size+1:=aT (cp _);refine⟨by rw[AG c,AF],bt _,c,i,λ_=>none,(Heap.Ns1.of_empty j).at λo q=>af _ q,λ_=>dL,λy B=>absurd rfl B⟩
def We{pos:Pos}{Q:ai->ak->Prop}(d:eh e f env (eval e env)=eval e env)
 (h:aO (aV prog w) A (eval e env) (λo b=>aO (aV prog w) A (getAttr o f aw) Q E b) E s):aO (aV prog w) A (eval (.Attribute e f pos) env) Q E s:=
 Attribute_any_ h (by rw[arm_eval_Attribute,d])
end
def JE(K:aB)(d:TE)(f:Str):TE:=λg H Q=>d g H λx b=>∃a C e c v,x= .b a/\b a=ae (.c C e c)/\sM K C/\qb K C f/\c.lookup f=ae v/\Q v b
def JI(K:aB)(e i:TE)(f:Str):TS:=λD c H=>i c H λy j=>e c j λx b=>∃a C d fs,x= .b a/\b a=ae (.c C d fs)/\sM K C/\qb K C f/\fs.length<1000/\
 D.nx c (upd b a (.c C d (Aw f y fs)))
def GZ(X:Cx)(op:kb)(b:V->V->Hp->VK->Prop):Prop:=
 ∀ (pb:List (ay×Obj)) (s:ak) (a:pz) (H:Hp) (x y:V) (u v:ai) (Q:VK),Inv X pb a H s->RelV x u->RelV y v->b x y H Q->aO (aV X.d X.w) X.A (nR op u v) (EP X pb a Q) X.xe s
def Hs(K:aB)(j B:TE)(G:V->V->Hp->VK->Prop)(f:Str):TS:=λD c H=>j c H λx e=>∃a C I g v,x= .b a/\e a=ae (.c C I g)/\sM K C/\qb K C f/\g.lookup f=ae v/\
 B c e λy J=>G v y J λz i=>∃d b,i a=ae (.c C d b)/\b.length<1000/\D.nx c (upd i a (.c C d (Aw f z b)))
section
variable{o value:dH}{f:Str}{pos:Pos}{tv:TE}
def X0(b:PE X e ta)(d:eh e f X.a (eval e X.a)=eval e X.a):PE X (.Attribute e f pos) (JE X.K ta f):=by
 intro k s g H Q I h;refine We d (pB (b k s g H _ I h) λu L i=>?_);obtain⟨x,j,y,z,a,C,M,o,v,m,B,c,n,l,q⟩:=i;subst m;obtain rfl:u=aj a:=z;exact KG y B c n l λP R G J=>⟨v,j,G,J,q⟩
def Xq(b:PE X o ta)(d:PE X value tv)(i:gZ value (ae (.Attribute o f pos')) pos.line X.a=pure au):PS X (.Assign [.Attribute o f pos'] value pos) (JI X.K ta tv f):=by
 intro g s e H D I h;refine plainObj_wpAny_Assign_Attribute (zz (d g s e H _ I h) λu j y z B G q=>zz (b g j e z _ B q) λJ S x T L M p=>?_) i;obtain⟨a,C,U,m,k,P,c,n,l,Q⟩:=p;subst k;obtain rfl:J=aj a:=M;exact J3 L P c n l G λY R=>⟨e,_,R,Q⟩
def SK{op:kb}(j:PE X o ta)(B:PE X value tv)(b:GZ X op rd):PS X (.AugAssign (.Attribute o f tpos) op value pos) (Hs X.K ta tv rd f):=by
 intro g s e H D I h;refine wpAny_AugAssign_AttributeAny (pB (j g s e H _ I h) λG s1 d=>?_);obtain⟨x,J,L,M,a,C,dx,fs,v,A,P,c,n,l,q⟩:=d;subst A;obtain rfl:G=aj a:=M;refine KG L P c n l λu Q R S=>zz (B g Q e J _ R q) λT U y Y Z m r=>pB (b g U e Y v y u T _ Z S m r) λV s4 d=>?_;obtain⟨z,H3,O,k,E,w,i,t,p⟩:=d;exact J3 O i c n t k λs5 N=>⟨e,_,N,p⟩
def xF:V->V->Hp->VK->Prop:=λx y H Q=>∃i j,x= .a i/\y= .a j/\Q (.a (i+j)) H
def YQ:GZ X .Add xF:=by
 rintro c s a H x y u v Q I d z ⟨i,j,rfl,rfl,q⟩;obtain⟨t,rfl⟩:=(show∃t,u=fW i t from d);obtain⟨b,rfl⟩:=(show∃b,v=fW j b from z);exact PyProof.Rows.iadd_int ⟨.a (i+j),H,I.Z _,⟨_,rfl⟩,q⟩
end
section
variable{O:pz}{s:ak}{Q:ai->ak->Prop}{c:ai}
inductive pQ (K:aB) (H:Hp):V->ai->Prop where
 |c:pQ K H .d (.type "NoneType")
 |e (x:Bool):pQ K H (.c x) (.type "bool")
 |a (i:Int):pQ K H (.a i) (.type "int")
 |b (x:Str):pQ K H (.e x) (.type "str")
 |d (x:UInt64):pQ K H (.g x) (.type "float")
 |lst {a:ay} {xs:gr} (e:H a=ae (.a xs)):pQ K H (.b a) (.type "list")
 |frz {a:ay} {o:Obj} {xs:gr} (e:H a=ae (.e o (.a xs))):pQ K H (.b a) (.type "list")
 |tup {a:ay} {xs:gr} (e:H a=ae (.b xs)):pQ K H (.b a) (.type "tuple")
 |dK {a:ay} {ph:List (Key×V)} (e:H a=ae (.d ph)):pQ K H (.b a) (.type "dict")
 |dT {a:ay} {ph:List (List Key×V)} (e:H a=ae (.g ph)):pQ K H (.b a) (.type "dict")
 |ins {a C dx:ay} {fs:List (Str×V)} (e:H a=ae (.c C dx fs)) (cl:sM K C) (ha:W.findIn K (.ref C) "__class__"=ae (ae (.builtin "object.__class__")))
   (hn:W.specialIn K (.builtin "object.__class__") "__get__"=ae (ae (.builtin "getset_descriptor.__get__"))) (htk:W.takesIn K (.builtin "object.__class__")=ae aw)
   (hm:W.mroIn K C (.type "object")=ae aw):pQ K H (.b a) (.ref C)
def Sr{u t:ai}(I:Inv X pb O H s)(d:RelV x u)(k:pQ X.K H x t)(e:W.kitOne X.K t c=ae b)(h:∀P,Q (.bool b) {s with toks:=P}):
 aO (aV X.d X.w) A (call (.builtin "isinstance") [u,c]) Q E s:=by
 cases k with
 |c=>cases(show u=dr from d);exact W.kia_one W.kitx_none I.qB dL e (λz=>nomatch z) h
 |e y=>cases(show u=eY y from d);exact W.kia_one W.kitx_bool I.qB dL e (λz=>nomatch z) h
 |a i=>obtain⟨t,q⟩:=(show∃t,u=fW i t from d);cases q;exact W.kia_one W.kitx_int I.qB dL e (λz=>nomatch z) h
 |b y=>obtain⟨t,q⟩:=(show∃t,u=cY y t from d);cases q;exact W.kia_one W.kitx_str I.qB dL e (λz=>nomatch z) h
 |d y=>obtain⟨t,q⟩:=(show∃t,u=mO y t from d);cases q;exact W.kia_one W.kitx_float I.qB dL e (λz=>nomatch z) h
 | @lst a G j=>
   cases(show u=aj a from d)
   obtain⟨_,_,n,_,B⟩:=(show pE X.d X.w H s.heap a (.a G)from I.a a _ j);exact W.kia_one W.kitx_list I.qB ⟨_,B,rfl⟩ e (λz=>nomatch z) h
 | @frz a g G j=>
   cases(show u=aj a from d)
   obtain⟨_,_,_,n,_,B⟩:=(show pE X.d X.w H s.heap a (.e g (.a G))from I.a a _ j);exact W.kia_one W.kitx_list I.qB ⟨_,B,rfl⟩ e (λz=>nomatch z) h
 | @tup a G j=>
   cases(show u=aj a from d)
   obtain⟨_,_,_,p⟩:=(show pE X.d X.w H s.heap a (.b G)from I.a a _ j);obtain⟨o,B,L,_⟩:=p;exact W.kia_one W.kitx_tuple I.qB ⟨o,B,L⟩ e (λz=>nomatch z) h
 | @dK a f j=>
   cases(show u=aj a from d)
   obtain⟨_,_,l,_,p⟩:=(show pE X.d X.w H s.heap a (.d f)from I.a a _ j);obtain⟨o,R,S,B,L,_⟩:=p;exact W.kia_one W.kitx_dict I.qB ⟨o,B,L.1⟩ e (λz=>nomatch z) h
 | @dT a f j=>
   cases(show u=aj a from d)
   obtain⟨_,_,G,_,o,R,S,B,L,_⟩:=(show pE X.d X.w H s.heap a (.g f)from I.a a _ j);exact W.kia_one W.kitx_dict I.qB ⟨o,B,L.1⟩ e (λz=>nomatch z) h
 | @ins a C Z v j cl T U M Y=>
   cases(show u=aj a from d)
   obtain⟨r,σ,_⟩:=Fp I.a j;obtain⟨m,J,_⟩:=σ.J;exact W.kia_one (W.kitx_own (cl.J _) cl.a T U M Y) I.qB J e (λz=>nomatch z) h
end
structure pM (k:Nat) (A:fL):Prop where
 a:A.handled=none
 c:A.depth+3*k+5<kq
 b:A.units+16*k+200<iw
 d:A.guards=ae []
def pM.ld{k:Nat}(r:pM k A)(h:j<=k):pM j A:=⟨r.a,by have:=r.c;lia,by have:=r.b;lia,by first|exact r.d|simpa[jk,gA,kN,iF,my,lD]using r.gd⟩
def pM.ap{k:Nat}(r:pM (k+1) A)(env:Env):pM k (A.deeper env):=
 ⟨r.a,by have:=r.c;show A.depth+1+3*k+5<_;lia,by have:=r.b;show A.units+3+16*k+200<_;lia,by first|exact r.d|simpa[jk,gA,kN,iF,my,lD]using r.gd⟩
def Rn{C:ay}:(A.under (.builtin "type.__call__" ⟨.ref C::us,kw⟩)).depth=A.depth+1:=by
 first|rfl|simp[gA,Code.weight,Code.isCreation,iF,Code.isCaller,oF,md,my]
def Rm{C:ay}:(A.under (.builtin "type.__call__" ⟨.ref C::us,kw⟩)).units=A.units+1:=by
 first|rfl|simp[gA,Code.cUnits,oF,md]
def pM.mp{k:Nat}(r:pM (k+1) A)(C:ay)(us:List ai)(b:List (Str×ai)):pM k (A.under (.builtin "type.__call__" ⟨.ref C::us,b⟩)):=
 ⟨r.a,by have:=r.c;rw[Rn];lia,by have:=r.b;rw[Rm];lia,by first|exact r.d|simpa[jk,gA,kN,iF,my,lD]using r.gd⟩
def pM.Z{k:Nat}(r:pM k A):A.depth<kq:=by have:=r.c;lia
def pM.J{k:Nat}(r:pM k A):A.units<iw:=by have:=r.b;lia
def rj:TA:=λ_ H Q=>Q [] H
def CB(b:TE)(d:TA):TA:=λa H Q=>b a H λx e=>d a e λi j=>Q (x::i) j
section
variable{t:TA}{pos:Pos}
def AB:PA X [] rj:=λ_ _ _ _ H Q I h=>fc ⟨[],H,I, .nil,h⟩
abbrev qr(X:Cx)(e:Expr)(es:List Expr):Prop:=aI (e::es) X.a=(au,eval e X.a)::aI es X.a
def AA(b:PE X e te)(d:PA X es t)(i:qr X e es<|>n'):PA X (e::es) (CB te t):=by
 intro a f s c H Q I h;rw[i];show aO _ _ (og ((au,eval e X.a)::dN a (aI es X.a))) _ _ s;refine dc (pB (b f s c H _ I h) λu j y=>?_);obtain⟨x,z,B,G,J⟩:=y;exact zQ (d a f j c z _ B J) λT U L M P R S=>⟨x::L,M,P, .cons G R,S⟩
def On(t:TA):TE:=λa H Q=>t a H λb d=>b.length<=sizeLine/\∀p,d p=none->Q (.b p) (upd d p (.b b))
def GS(t:TA):TE:=λa H Q=>t a H λb d=>b.length<=sizeLine/\∀p,d p=none->Q (.b p) (upd d p (.a b))
def Az{c}(h:PA X es t):PE X (.Tuple es c pos) (On t):=by
 intro f s a H Q I x;refine wpAny_Tuple_spliced (zQ (h pos f s a H _ I x) λy d B i j r ⟨z,q⟩=>⟨by rw[<-r.J];exact z,?_⟩);have G:i d.1.1.size=none:=j.a.J (am _);refine⟨.b d.1.1.size,upd i d.1.1.size (.b B),j.mp (t':=d.toks) (λb u e=>af _ e) (am _) ?_,rfl,q _ G⟩;exact⟨z,y,r,⟨_,aq _ rfl,rfl,_,rfl⟩⟩
def Ad(h:PA X es t):PE X (.List es pos) (GS t):=by
 intro c s a H Q I x;refine wpAny_List_spliced (zQ (h pos c s a H _ I x) λy d B i j r ⟨z,q⟩=>⟨by rw[<-r.J];exact z,?_⟩);have G:i d.1.1.size=none:=j.a.J (am _);refine⟨.b d.1.1.size,upd i d.1.1.size (.a B),j.mp (t':=d.toks) (λb u e=>af _ e) (am _) ?_,rfl,q _ G⟩;exact⟨z,y,0,r,aq _ rfl⟩
end
abbrev Sp:=gr->Hp->VK->XK->Prop
abbrev wc:=List Env->Hp->ak->XK->ai->ak->Prop
end
end Lake
variable{sp:Sp}
namespace Lake
section
variable{f:ay}{params:Arguments}{CX:wc}{body:List kh}{r:gr->Hp->VK->Prop}{ds:List ai}{t:TA}{Q:VK}{E:XK}
structure tH (P:bW) (w:dh) (K:aB) (mg:Str->Option ai) (base:dg) (A:fL) (outer:List Env) (s:ak) (H:Hp):Prop where
 a:A.frames=ae outer
 c:Mod K mg base
 h:∀b o,base.get? b=ae o->s.heap.get? b=ae o/\H b=none
 f:base.objs.size<=s.1.1.size
 i:s.heap.FunFrames base outer
 g:∀b∈rg outer,H b=none
 e:qG P w H s.heap
 d:iK s.gens
def CE(h:List Env)(P:bW)(w:dh)(H:Hp)(s:ak)(Q:VK)(u:ai)(b:ak):Prop:=
 ∃v d,b.os=s.os/\iK b.gens/\Un (rg h) [] H d s.heap b.heap/\qG P w d b.heap/\RelV v u/\Q v d
def CR(CX:wc)(h:List Env)(P:bW)(w:dh)(H:Hp)(s:ak)(Q:VK)(E:XK)(r:nZ)(b:ak):Prop:=
 match r with
 | .ok (.ret u)=>CE h P w H s Q u b
 | .ok _=>False
 | .error e=>CX h H s E e b
structure pV (P:bW) (w:dh) (K:aB) (mg:Str->Option ai) (base:dg) (CX:wc) (k:Nat) (f:ay) (fd:ke) (ps:hE) (sp:Sp):Prop where
 b:∀vs H Q E,sp vs H Q E->vs.length=ps.length
 a:∀ (A:fL) (outer:List Env) (s:ak) (H:Hp) (args:Args) (us:List ai) (vs:gr) (Q:VK) (E:XK),pM k A->tH P w K mg base A outer s H->lT s fd args (ps.zip us)->Vals vs us->sp vs H Q E->
  dM (aV P w) A (.call (.ref f) args) (CR CX outer P w H s Q E) s
def pV.J{k:Nat}{m:hE}{l:Sp}(F:pV P w K mg base CX k f fd m sp)
 (h:∀vs H Q E,l vs H Q E->sp vs H Q E):pV P w K mg base CX k f fd m l:=
 ⟨λvs H Q E q=>F.b vs H Q E (h _ _ _ _ q),λA a s H c b vs Q E d e i j x=>F.a A a s H c b vs Q E d e i j (h _ _ _ _ x)⟩
def tH.J{s:ak}(e:tH P w K mg base A outer s H)(C:ay)(us:List ai)(b:List (Str×ai)):
 tH P w K mg base (A.under (.builtin "type.__call__" ⟨.ref C::us,b⟩)) outer s H:=⟨by first|exact e.a|(simpa[gA,Code.envs,md,pushEnvs]using e.frames),e.c,e.h,e.f,e.i,e.g,e.e,e.d⟩
section
variable{O:pz}{s s':ak}
def Inv.uQ(I:Inv X pb O H s):tH X.d X.w X.K X.h X.f X.A X.e s H:=
 ⟨I.e.e,I.e.f,I.bs,bw I.e.h I.sz,I.stack,I.qH,I.a,I.d⟩
def Inv.after{u:ai}(I:Inv X pb O H s)(h:CE X.e X.d X.w H s Q u s'):EP X pb O Q u s':=by
 obtain⟨v,i,k,a,f,c,r,q⟩:=h;obtain⟨j,g,d,t,e⟩:=s';obtain rfl:e=s.os:=k;exact⟨v,i,I.call (h':=j) (g':=g) (d':=d) (t':=t) (ch:=[]) f c a (λb z=>absurd z b'),r,q⟩
end
def D6(sp:Sp)(b:gr)(E:XK)(t:TA):TE:=λa H Q=>t a H λvs d=>sp (vs++b) d Q E
def Ey(C:ay)(m:Str)(sp:Sp)(b:gr)(E:XK)(e:TE)(t:TA):TE:=λc H Q=>e c H λx d=>∃a i f,x= .b a/\d a=ae (.c C i f)/\f.lookup m=none/\
 t c d λvs j=>sp (x::(vs++b)) j Q E
def Ez(C:ay)(sp:Sp)(d:gr)(E:XK)(t:TA):TE:=λa H Q=>t a H λvs e=>∀x b,e x=none->e b=none->b≠x->
 sp (.b x::(vs++d)) (upd (upd e b (.f x)) x (.c C b [])) (λv i=>v= .d/\Q (.b x) i) E
def Binds(K:aB)(h:ke)(ps:hE)(d:List ai):Prop:=
 ∀ (s:ak) (b:List ai),K.In s.heap->(b++d).length=ps.length->lT s h ⟨b,[]⟩ (ps.zip (b++d))
def Binds.J{ps:hE}(h:∀b:List ai,b.length=ps.length->bindArgs fd ⟨b,[]⟩=pure (ps.zip b)):Binds K fd ps []:=λs b _ d=>by
 rw[cT]at d⊢;exact .of_eq (h b d)
def DM(CX:wc)(X:Cx)(E:XK):Prop:=∀ (pb:List (ay×Obj)) (a:pz) (H:Hp) (s:ak) (e:ai) (b:ak),Inv X pb a H s->CX X.e H s E e b->X.xe e b
section
variable{k:Nat}{ps:hE}{dvs:gr}{m:Str}{p pos apos:Pos}{o:dH}
def IR{O:pz}{s:ak}(F:pV X.d X.w X.K X.h X.f CX k f fd ps sp)(i:pM k X.A)(j:Binds X.K fd ps ds)(l:Vals dvs ds)(y:DM CX X E)
 (I:Inv X pb O H s) (r:Vals vs us) (h:sp (vs++dvs) H Q E):aO (aV X.d X.w) X.A (call (.ref f) us) (EP X pb O Q) X.xe s:=by
 have d:Vals (vs++dvs) (us++ds):=r.ap l;have z:(us++ds).length=ps.length:=by rw[<-d.J];exact F.b _ _ _ _ h
 refine gb (dB (F.a X.A X.e s H ⟨us,[]⟩ (us++ds) (vs++dvs) Q E i I.uQ (j s us I.qB z) d h) λr B b=>?_)
 cases r with
 |error e=>exact y pb O H s e B I b
 |ok a=>
  cases a with
  |ret u=>exact I.after b
  |next=>exact bH b
  |brk=>exact bH b
  |cont=>exact bH b
def V5(F:pV X.d X.w X.K X.h X.f CX k f fd ps sp)(j:pM k X.A)(u:Gl X x)(y:X.h x=ae (.ref f))(l:W.keepIn X.K (.ref f)=aw)(z:Binds X.K fd ps ds)(v:Vals dvs ds)(B:DM CX X E)
 (G:PA X (e::es) t) (b:qq x<|>pu) (J:qr X e es<|>n') (d:(dN pos (aI es X.a)).any (·.1)=au<|>n'):
 PE X (.Call (.Name x p) (e::es) [] pos) (D6 sp dvs E t):=by
 intro c s a H Q I h;refine cF (DD I u y ?_ b);refine W.callWith_K (h₀:=X.f) I.e.f.b l (zQ (G pos c s a H _ I h) λL M g P i r q=>⟨i.qB,?_⟩) J d;exact IR F j z v B i r q
def Vx(z:PE X o ta)(c:sM X.K C)(i:Meth X.K C m f)(F:pV X.d X.w X.K X.h X.f CX k f fd ps sp)(B:pM k X.A)(G:Binds X.K fd ps ds)(O:Vals dvs ds)(J:DM CX X E)(L:PA X (e::es) t)
 (b:qr X e es<|>n') (d:(dN pos (aI es X.a)).any (·.1)=au<|>n')
 (N:eval (.Call (.Attribute o m apos) (e::es) [] pos) X.a=(do
   let p<-eval o X.a
   hU apos.atName
   let(f,first)<-gQ [p] (iT p m pl)
   mB pos f first (dN pos (aI (e::es) X.a)) (iA pos (fD [] X.a)))<|>n'):
 PE X (.Call (.Attribute o m apos) (e::es) [] pos) (Ey C m sp dvs E ta t):=by
 intro n s g H Q I h;refine W.methodCall_KW (pl:=pl) (zz (z n s g H _ I h) λu M x P j R ⟨a,U,fs,V,S,l,q⟩=>?_) N;subst V;obtain rfl:u=aj a:=R;refine Gm j S c i l ?_;refine W.callWith_K (first:=[.ref a]) (h₀:=X.f) I.e.f.b i.b (zQ (L pos n M g P _ j q) λD Y v Z y r T=>⟨y.qB,?_⟩) b d;exact IR (us:= .ref a::D) (vs:= .b a::v) F B G O J y (.cons rfl r) T
def UV(i:PE X o ta)(c:sM X.K C)(d:Meth X.K C m f)(F:pV X.d X.w X.K X.h X.f CX k f fd ps sp)(j:pM k X.A)(y:Binds X.K fd ps ds)(N:Vals dvs ds)(z:DM CX X E)
 (v:eval (.Call (.Attribute o m apos) [] [] pos) X.a=(do
   let e<-eval o X.a
   hU apos.atName
   let(f,first)<-gQ [e] (iT e m pl)
   mB pos f first (dN pos (aI [] X.a)) (iA pos (fD [] X.a)))<|>n'):
 PE X (.Call (.Attribute o m apos) [] [] pos) (Ey C m sp dvs E ta rj):=by
 intro n s g H Q I h;refine W.methodCall_KW (pl:=pl) (zz (i n s g H _ I h) λu J x L b B t=>?_) v;obtain⟨a,M,r,p,G,l,q⟩:=t;subst p;obtain rfl:u=aj a:=B;refine Gm b G c d l ?_;exact W.callWith_K0 (first:=[.ref a]) b.qB d.b (IR (us:=[.ref a]) (vs:=[.b a]) F j y N z b (.cons rfl .nil) q)
structure Mk (K:aB) (C f:ay):Prop where
 a:W.makesIn K C=aw
 b:W.findIn K (.ref C) "__init__"=ae (ae (.ref f))
 d:W.isFn K (.ref f)=aw
 c:W.keepIn K (.ref C)=aw
def Lc{O:pz}{s:ak}(M:Mk X.K C f)(F:pV X.d X.w X.K X.h X.f CX k f fd ps sp)(z:pM (k+1) X.A)(B:Binds X.K fd ps ds)(l:Vals dvs ds)
 (G:DM CX X E) (I:Inv X pb O H s) (r:Vals vs us)
 (h:∀x d,H x=none->H d=none->d≠x->sp (.b x::(vs++dvs)) (upd (upd H d (.f x)) x (.c C d [])) (λv J=>v= .d/\Q (.b x) J) E):
 aO (aV X.d X.w) X.A (call (.ref C) us) (EP X pb O Q) X.xe s:=by
 have j:=h (s.1.1.size+1) s.1.1.size (I.a.J (f' _)) (I.a.J (am _)) (aT (cp _));have i:=Inv.made (C:=C) I;have y:Vals (V.b (s.1.1.size+1)::(vs++dvs)) (aj (s.1.1.size+1)::(us++ds)):= .cons rfl (r.ap l);have L:(aj (s.1.1.size+1)::us++ds).length=ps.length:=by
  have e:=y.J;rw[F.b _ _ _ _ j]at e;exact e.symm
 refine gb (Uj (f:=f) I.qB M.a M.b (bP.mp M.d) (dB (F.a _ X.e _ _ ⟨aj (s.1.1.size+1)::us,[]⟩ (aj (s.1.1.size+1)::(us++ds)) _ _ E (z.mp C us [])
  (i.uQ.J C us []) (B _ (aj (s.1.1.size+1)::us) i.qB L) y j) λr P b=>?_))
 cases r with
 |error e=>exact G pb O _ _ e P i b
 |ok c=>
  cases c with
  |ret u=>
   obtain⟨v,R,S,a,T,U⟩:=i.after b;subst T;exact⟨a,⟨V.b (s.1.1.size+1),R,S,rfl,U⟩⟩
  |next=>exact bH b
  |brk=>exact bH b
  |cont=>exact bH b
def Vy(M:Mk X.K C f)(F:pV X.d X.w X.K X.h X.f CX k f fd ps sp)(j:pM (k+1) X.A)(l:Gl X x)(y:X.h x=ae (.ref C))(z:Binds X.K fd ps ds)(u:Vals dvs ds)(B:DM CX X E)
 (G:PA X (e::es) t) (b:qq x<|>pu) (J:qr X e es<|>n') (d:(dN pos (aI es X.a)).any (·.1)=au<|>n'):
 PE X (.Call (.Name x p) (e::es) [] pos) (Ez C sp dvs E t):=by
 intro c s a H Q I h;refine cF (DD I l y ?_ b);refine W.callWith_K (h₀:=X.f) I.e.f.b M.c (zQ (G pos c s a H _ I h) λL P g R i r q=>⟨i.qB,?_⟩) J d;exact Lc M F j z u B i r q
def UW(M:Mk X.K C f)(F:pV X.d X.w X.K X.h X.f CX k f fd ps sp)(d:pM (k+1) X.A)(l:Gl X x)(i:X.h x=ae (.ref C))(j:Binds X.K fd ps ds)(q:Vals dvs ds)(y:DM CX X E)
 (b:qq x<|>pu):PE X (.Call (.Name x p) [] [] pos) (Ez C sp dvs E rj):=by
 intro c s a H Q I h;refine cF (DD I l i ?_ b);exact W.callWith_K0 I.qB M.c (Lc (us:=[]) M F d j q y I .nil h)
end
structure pR (N P:hE) (sc:ib):Prop where
 a:sc.kind= .function
 g:sc.isCoroutine=au
 d:sc.isGenerator=au
 b:N.Nodup
 c:N.take P.length=P
 f:∀x∈P,sc.names.lookup x=ae .local\/sc.names.lookup x=ae .cell
 e:∀y∈sc.names,y.2≠ .free
theorem K5:∀ {a:List (Str×ai)} {m:Str->Option ai},(∀v,(x,v)∉a)->om kindOf a m x=m x
 |[],_,_=>rfl
 |(n,v)::r,m,h=>by
  unfold om;rw[K5 λw b=>h w (aM _ b)]
  split
  .have:x≠n:=by rintro rfl;exact h v aG
   simp[this]
  .rfl
theorem K7:∀ {a:List (Str×ai)} {m:Str->Option ai},(∀v,(x,v)∉a)->oo kindOf a m x=m x
 |[],_,_=>rfl
 |(n,v)::r,m,h=>by
  unfold oo;rw[K7 λw b=>h w (aM _ b)]
  split
  .rfl
  .have:x≠n:=by rintro rfl;exact h v aG
   simp[this]
theorem K6{v:ai}:∀ {P:hE} {vs:List ai} {i:Nat} {m:Str->Option ai},P.Nodup->P[i]? =ae x->vs[i]? =ae v->kindOf x=ae .local->
 om kindOf (P.zip vs) m x=ae v
 |[],_,_,_,_,h,_,_=>by simp at h
 |_::_,[],_,_,_,_,h,_=>by simp at h
 |p::P,w::vs,0,m,a,b,d,hk=>by
  simp at b d;subst b;subst d;show om kindOf ((p,w)::P.zip vs) m p=_;unfold om;rw[K5 λv e=>(iq.mp a).1 (ip e).1,aU hk];simp
 |p::P,w::vs,i+1,m,a,b,d,hk=>by
  show om kindOf ((p,w)::P.zip vs) m x=_;unfold om;exact K6 (i:=i) (iq.mp a).2 (by simpa using b) (by simpa using d) hk
theorem K8{v:ai}:∀ {P:hE} {vs:List ai} {i:Nat} {m:Str->Option ai},P.Nodup->P[i]? =ae x->vs[i]? =ae v->kindOf x≠ae .local->
 oo kindOf (P.zip vs) m x=ae v
 |[],_,_,_,_,h,_,_=>by simp at h
 |_::_,[],_,_,_,_,h,_=>by simp at h
 |p::P,w::vs,0,m,a,b,d,hk=>by
  simp at b d;subst b;subst d;show oo kindOf ((p,w)::P.zip vs) m p=_;unfold oo;rw[K7 λv e=>(iq.mp a).1 (ip e).1,aP hk];simp
 |p::P,w::vs,i+1,m,a,b,d,hk=>by
  show oo kindOf ((p,w)::P.zip vs) m x=_;unfold oo;exact K8 (i:=i) (iq.mp a).2 (by simpa using b) (by simpa using d) hk
def start(N:hE)(vs:gr):pz:=vs.map ae++aZ (N.length-vs.length) none
def Cj(CX:wc)(P:bW)(w:dh)(K:aB)(l:Str->Option ai)(base:dg)(N:hE)(k:Str)(scope:ib)(f:ay)(d:ai)(A:fL)(h:List Env)(s:ak)(H:Hp)(E:XK):Cx where
 d:=P
 w:=w
 K:=K
 h:=l
 f:=base
 A:=A.deeper (iU k scope s.1.1.size f d)
 N:=N
 j:=s
 l:=H
 a:=iU k scope s.1.1.size f d
 g:=h
 e:=iU k scope s.1.1.size f d::h
 k:=[]
 calm:=aw
 i:=λ_=>aw
 pn:=[]
 xe:=λe i=>aO (aV P w) (A.deeper (iU k scope s.1.1.size f d)) (leaving (iU k scope s.1.1.size f d) e) (λ_ b=>CX h H s E e b) (λj b=>CX h H s E j b) i
def MB{sc:ib}(h:sc.names.lookup x=ae .cell):∃c,(d8 n sc.names []).lookup x=ae c:=by
 have q:=W.cellsFrom_some sc.names n [] (.inl h);exact iZ.mp q
def Ks{N ps:hE}{l:ai}{s m:ak}
 (S:pR N ps scope) (O:A.handled=none) (j:tH P w K mg base A outer s H) (R:vs.length=ps.length) (r:Vals vs us)
 (x:InCallC s s.1.1.size (om (iU qual scope s.1.1.size f l).kindOf (ps.zip us) λ_=>none) (d8 (s.1.1.size+1) scope.names []) (oo (iU qual scope s.1.1.size f l).kindOf (ps.zip us) λ_=>none) m):
 Inv (Cj CX P w K mg base N qual scope f l A outer s H E) [] (start N vs) H m:=by
 have M:ps.length<=N.length:=by have:=cx fj S.c;rw[cU]at this;lia
 obtain⟨J,T,rfl,hk⟩:=x.done;have B:∀b:ay,b∉(Cj CX P w K mg base N qual scope f l A outer s H E).k:=λb z=>absurd (show b∈([]:List ay)from z) b';refine⟨⟨j.c,S.a,rfl,rfl,am _,λy z c J d=>?_,λy hy=>?_,λy c _ h=>?_,λ_=>O,km j.a, .inr ⟨rfl,rfl⟩,λb z=>absurd z (B b),j.h,j.f,λb _ _=>B b,λb z=>absurd z (B b),j.i,j.g⟩,
  rfl,j.d,Un.J hk,⟨_,x.toInCall.ns,λi y v J d U=>?_⟩,λy c h=>⟨_,x.cell y c h⟩,j.e.J (am _),λy c h=>?_,λp G=>absurd (show p∈([]:List (ay×Obj))from G) b',j.e.Z hk,?_⟩
 .exact name_of_addr x.apart (bM J) (bM d)
 .have hy:scope.names.lookup y=ae .cell\/scope.names.lookup y=ae .free:=hy;rcases hy with hy|hy
  .exact MB hy
  .exact absurd rfl (S.e _ (bM hy))
 .exact bZ (x.above y c (bM h))
 .have g:i<vs.length:=by
   unfold start at d
   by_cases g:i<vs.length
   .exact g
   .rw[cN (by simpa using g)]at d;rw[jg]at d
    split at d<;>cases d
  have Q:vs[i]? =ae v:=by
   unfold start at d;rw[dA (by simpa using g),ao]at d
   cases e:vs[i]? with
   |none=>rw[e]at d;cases d
   |some a=>rw[e]at d;cases d;rfl
  obtain⟨u,L,o⟩:=r.ld Q;have G:ps[i]? =ae y:=by
   rw[<-S.c,List.getElem?_take_of_lt oZ];exact J
  have I:ps.Nodup:=by rw[<-S.c];exact S.b.sublist (lM _ _)
  refine⟨u,o,?_⟩;rcases S.f y (cE G)with k|k
  .exact .inl ⟨k,K6 I G L k⟩
  .obtain⟨c,e⟩:=MB (n:=s.1.1.size+1) k;refine .inr ⟨.inl k,c,e,?_⟩;have q:=x.cell y c e;rw[K8 I G L (by show scope.names.lookup y≠_;rw[k];decide)]at q;exact q
 .exact j.e.J (bZ (x.above y c (bM h)))
 .unfold start;show _=N.length;rw[aN,az,dD];lia
def Od{k:Nat}{name:Str}{dV kV m D h ct oc:ai}{an od:Option ay}
 {O:Array (Option ai)} {N ps:hE} {sp:Sp} (T:K.lookup f=ae ⟨oc,od, .func (W.fnOf name qual params body scope dV kV m D an h ct),O⟩) (L:W.codeIn K h qual=aw) (S:pR N ps scope)
 (l:∀vs H Q E,sp vs H Q E->vs.length=ps.length)
 (i:∀ (A:fL) (outer:List Env) (s:ak) (H:Hp) (vs:gr) (Q:VK) (E:XK),pM k (A.deeper (iU qual scope s.1.1.size f h))->sp vs H Q E->
   ∃t,rm (Cj CX P w K mg base N qual scope f h A outer s H E) body t/\t {nx:=λ_ d=>Q .d d,a:=Q} (start N vs) H):
 pV P w K mg base CX (k+1) f (W.fnOf name qual params body scope dV kV m D an h ct) ps sp:=by
 refine⟨l,λA outer s H a0 U vs Q E M B X r G=>?_⟩;have Y:=l _ _ _ _ G;have KX:K.In s.heap:=B.c.b.keeps λb o e=>(B.h b o e).1;have R:s.heap.NoLimit:=B.c.c.keeps λb o e=>(B.h b o e).1;have j:∀y∈ps.zip U,scope.names.lookup y.1=ae .local\/(scope.names.lookup y.1=ae .cell/\((d8 (s.1.1.size+1) scope.names []).lookup y.1).isSome=aw):=λ⟨n,v⟩ Z=>by
  rcases S.f n (ip Z).1 with q|q
  .exact .inl q
  .exact .inr ⟨q,W.cellsFrom_some _ _ _ (.inl q)⟩
 refine jL M.Z (KX _ _ T) rfl S.g S.d rfl (W.codeRec_of KX L) (X _ _ _ _ ?_);refine iu S.a j λa1 he C x=>?_;subst he;refine⟨R.keeps x.toInCall.keep,codeAny_func ?_⟩;obtain⟨t,ht,hq⟩:=i A outer s H vs Q E (M.ap _) G;have I:Inv (Cj CX P w K mg base N qual scope f h A outer s H E) [] (start N vs) H C:=Ks S M.a B Y r x;refine bi (ht [] C (start N vs) H _ I hq) (λfl g z=>?_) λe g z=>z;have c:∀ {a:pz} {d:Hp} {v:V} {u:ai},Inv (Cj CX P w K mg base N qual scope f h A outer s H E) [] a d g->RelV v u->Q v d->CE outer P w H s Q u g:=
  fun{a d v u} J p q=>⟨v,d,J.n,J.d,J.b,J.a,p,q⟩
 cases fl with
 |ret u=>
  obtain⟨v,a,d,J,p,q⟩:=z;exact c J p q
 |next=>
  obtain⟨a,d,J,q⟩:=z;exact c (v:=V.d) (u:=dr) J rfl q
 |brk=>
  obtain⟨_,_,_,q⟩:=z;exact bH q
 |cont=>
  obtain⟨_,_,_,q⟩:=z;exact bH q
section
variable{p pos:Pos}{id T:String}
def xt(r:gr->Hp->VK->Prop)(t:TA):TE:=λa H Q=>t a H λvs b=>r vs b Q
def Aj(i:pH X (.builtin id) r)(k:Gl X x)(j:X.h x=none)(y:fE x=ae (.builtin id))(z:PA X (e::es) t)(B:x≠"__name__"<|>pu)(b:qq x<|>pu)
 (G:qr X e es<|>n') (d:(dN pos (aI es X.a)).any (·.1)=au<|>n'):PE X (.Call (.Name x p) (e::es) [] pos) (xt r t):=by
 intro c s a H Q I h;refine cF (CL I k j y ?_ B b);exact hG (zQ (z pos c s a H _ I h) λJ L f M P R S=>i c L a M f J Q P R S) G d
def BA(i:pH X (.type T) r)(k:Gl X x)(j:X.h x=none)(y:fE x=ae (.type T))(z:PA X (e::es) t)(B:x≠"__name__"<|>pu)(b:qq x<|>pu)
 (G:qr X e es<|>n') (d:(dN pos (aI es X.a)).any (·.1)=au<|>n'):PE X (.Call (.Name x p) (e::es) [] pos) (xt r t):=by
 intro c s a H Q I h;refine cF (CL I k j y ?_ B b);exact bN (zQ (z pos c s a H _ I h) λJ L f M P R S=>i c L a M f J Q P R S) G d
end
end
section
variable{s:ak}
def qj(n d:Nat):Option Int->Nat
 |none=>d
 |some v=>if v<0 then(v+(n:Int)).toNat else min v.toNat n
def rE(n d:Nat):qj n d none=d:=rfl
def sE(n d k:Nat):qj n d (ae (k:Int))=min k n:=by
 show(if(k:Int)<0 then((k:Int)+(n:Int)).toNat else min (k:Int).toNat n)=min k n;rw[aP oZ,fb]
def wN(n d:Nat)(h:d<=n)(o:Option Int):qj n d o<=n:=by
 cases o with
 |none=>exact h
 |some v=>
  show(if v<0 then(v+(n:Int)).toNat else min v.toNat n)<=n
  by_cases b:v<0
  .rw[aU b];lia
  .rw[aP b];exact Nat.min_le_right _ _
end
section
variable{f:Array ai->Array ai}{i:Int}{ys:gr}{its its':List ai}{x:V}{r:V->Option Int->Option Int->Hp->VK->Prop}
abbrev TO:=pz->Hp->(Option Int->Hp->Prop)->Prop
def PO(X:Cx)(e:Option dH)(t:TO):Prop:=
 ∀ (pb:List (ay×Obj)) (s:ak) (a:pz) (H:Hp) (Q:Option Int->Hp->Prop),Inv X pb a H s->t a H Q->
   aO (aV X.d X.w) X.A (evalPart e X.a) (λu d=>∃o b,Inv X pb a b d/\IsPart u o/\Q o b) X.xe s
def sv:TO:=λ_ H Q=>Q none H
def Ii(t:TE):TO:=λa H Q=>t a H λx b=>∃i,x= .a i/\Q (ae i) b
def KB:∀ {b:List ai},Vals (ns.map V.a) b->iI b ns:=by
 induction ns with
 |nil=>intro b r;rw[fH]at r;cases r;exact .nil
 |cons n ns d=>
  intro b r;rw[aY]at r
  cases r with
  |cons i j=>
   obtain⟨t,e⟩:=i;subst e;exact .cons n t (d j)
section
variable{lo hi:Option dH}{tl th:TO}{pos p2:Pos}
def A4:PO X none sv:=by
 intro b s a H Q I h;rw[kU];exact ah ⟨none,H,I, .none,h⟩
def A3(h:PE X e te):PO X (ae e) (Ii te):=by
 intro c s a H Q I b;rw[evalPart_some];refine pB (h c s a H _ I b) λu G d=>?_;obtain⟨x,j,y,z,B⟩:=d;obtain⟨i,rfl,q⟩:=B;obtain⟨t,rfl⟩:=z;exact⟨ae i,j,y, .int i t,q⟩
def wC(X:Cx)(r:V->Option Int->Option Int->Hp->VK->Prop):Prop:=
 ∀ (pb:List (ay×Obj)) (s:ak) (a:pz) (H:Hp) (x:V) (v b d:ai) (lo hi:Option Int) (i:ay) (Q:VK),Inv X pb a H s->RelV x v->s.heap.IsSliceOf i b d .none->IsPart b lo->IsPart d hi->r x lo hi H Q->
   ∃T id,na (.type T) "__getitem__"=pure (ae (.builtin id))/\s.TypeIs v T/\aO (aV X.d X.w) X.A (lE v (.ref i)) (EP X pb a Q) X.xe s
def wC.J{k:V->Option Int->Option Int->Hp->VK->Prop}(h:wC X r)(h':wC X k):wC X (λx lo hi H Q=>r x lo hi H Q\/k x lo hi H Q):=by
 intro c s a H x v b d lo hi i Q I j y z B q;rcases q with q|q
 .exact h c s a H x v b d lo hi i Q I j y z B q
 .exact h' c s a H x v b d lo hi i Q I j y z B q
def yt(r:V->Option Int->Option Int->Hp->VK->Prop)(m:TE)(h k:TO):TE:=λa H Q=>m a H λx b=>h a b λl d=>k a d λu i=>r x l u i Q
def A1(B:wC X r)(G:PE X e te)(J:PO X lo tl)(L:PO X hi th):PE X (.Subscript e (.Slice lo hi none p2) pos) (yt r te tl th):=by
 intro c s a H Q I h;refine lI (pB (G c s a H _ I h) λv M y=>?_);obtain⟨x,P,R,S,U⟩:=y;refine wpAny_Slice (pB (J c M a P _ R U) λi Y y=>?_);obtain⟨l,Z,D,m,g⟩:=y;refine pB (L c Y a Z _ D g) λj d y=>?_;obtain⟨u,z,C,k,f⟩:=y;rw[kU];refine ah ?_;have t:Inv X c a z {d with heap:=d.heap.push {cls:= .type "slice",data:= .fields #[i,j, .none]}}:=C.ap (t':=d.toks) λb E q=>af _ q;obtain⟨T,id,p,n,o⟩:=B c {d with heap:=d.heap.push {cls:= .type "slice",data:= .fields #[i,j, .none]}} a z x v i j l u d.1.1.size Q t S (lm ..) m k f;show aO (aV X.d X.w) X.A (i9 e (.Slice lo hi none p2) v (.ref d.1.1.size)) (EP X c a Q) X.xe {d with heap:=d.heap.push {cls:= .type "slice",data:= .fields #[i,j, .none]}};exact tail_any (ops:=[.ref d.1.1.size,v]) n p o dp
def C7(xs:gr)(h k:Option Int):gr:=(xs.drop (qj xs.length 0 h)).take (qj xs.length xs.length k-qj xs.length 0 h)
def RC(xs:gr)(h k:Option Int):(C7 xs h k).length<=xs.length:=by
 unfold C7;rw[cU,jq];lia
end
def qW(n:Nat)(i:Int):Option Nat:=if 0<=i then(if i<n then ae i.toNat else none)else if -(n:Int)<=i then ae (i+n).toNat else none
def pY{h:Type}(xs:List h)(i:Int):Option h:=(qW xs.length i).bind λj=>xs[j]?
def Mx(h:qW n i=ae j):seqIndex? i n=ae j/\j<n/\ -(n:Int)<=i/\i<n:=by
 unfold qW at h
 by_cases a:0<=i
 .rw[aU a]at h
  by_cases b:i<n
  .rw[aU b]at h;have e:i.toNat=j:=bv h;exact⟨by rw[kC a b,e],by lia,by lia,b⟩
  .rw[aP b]at h;cases h
 .rw[aP a]at h
  by_cases b: -(n:Int)<=i
  .rw[aU b]at h;have e:(i+n).toNat=j:=bv h;exact⟨by rw[seqIndex_neg oZ b,e],by lia,b,by lia⟩
  .rw[aP b]at h;cases h
def IF{xs:List α}{v:α}(h:pY xs i=ae v):∃j,seqIndex? i xs.length=ae j/\xs[j]? =ae v/\j<xs.length/\ -(xs.length:Int)<=i/\i<xs.length:=by
 unfold pY at h
 cases e:qW xs.length i with
 |none=>rw[e]at h;cases h
 |some j=>
  rw[e]at h;obtain⟨b,d,x,y⟩:=Mx e;exact⟨j,b,h,d,x,y⟩
def AU{xs:List α}{v:α}(h:xs[j]? =ae v):pY xs (j:Int)=ae v:=by
 have b:j<xs.length:=(aR.mp h).1;have e:qW xs.length (j:Int)=ae j:=by
  unfold qW;rw[aU oZ,aU oZ];simp
 unfold pY;rw[e];exact h
def ME(xs:List α)(v:α):pY (xs++[v]) (-1)=ae v:=by
 have b:(xs++[v]).length=xs.length+1:=by simp
 have e:qW (xs++[v]).length (-1)=ae xs.length:=by
  unfold qW;rw[b,aP oY,aU oZ];congr 1;lia
 unfold pY;rw[e];show(xs++[v])[xs.length]? =ae v;simp
def NK(b:dH):Prop:=∀o i,kA b au o i=operate [o,i] (lE o i)
def vC(X:Cx)(r:R2):Prop:=
 ∀ (b a:dH) (pb:List (ay×Obj)) (s:ak) (c:pz) (H:Hp) (x y:V) (v u:ai) (Q:VK),Inv X pb c H s->RelV x v->RelV y u->r x y H Q->
   kA a au v u=operate [v,u] (lE v u)->aO (aV X.d X.w) X.A (i9 b a v u) (EP X pb c Q) X.xe s
def wb(X:Cx)(id:String)(r:V->gr->Hp->VK->Prop):Prop:=
 ∀ (pb:List (ay×Obj)) (s:ak) (a:pz) (H:Hp) (x:V) (b:gr) (v:ai) (d:List ai) (Q:VK),Inv X pb a H s->RelV x v->Vals b d->r x b H Q->
   aO (aV X.d X.w) X.A (call (.builtin id) (v::d)) (EP X pb a Q) X.xe s
section
variable{a b:dH}{tb:TE}{pos:Pos}
def vC.J{r k:R2}(h:vC X r)(h':vC X k):vC X (λx y H Q=>r x y H Q\/k x y H Q):=by
 intro a b f s c H x y v u Q I d e q i;rcases q with q|q
 .exact h a b f s c H x y v u Q I d e q i
 .exact h' a b f s c H x y v u Q I d e q i
def ZK{r:R2}(d:vC X r)(e:PE X a ta)(i:PE X b tb)(j:NK b):PE X (.Subscript a b pos) (uc r ta tb):=by
 intro f s c H Q I h;exact lI (JM e i I h λv u z x y B G J L q=>d a b f z c B x y v u Q G J L q (j _ _))
def PD(K:aB):R2:=λx y H Q=>∃p d i v,x= .b p/\y= .a i/\pq K H p d/\pY d i=ae v/\Q v H
def PB(K:aB):R2:=λx y H Q=>∃p d i v,x= .b p/\y= .a i/\pX K H p d/\pY d i=ae v/\Q v H
def yy:R2:=λx y H Q=>∃z i c,x= .e z/\y= .a i/\z.length<=sizeLine/\pY z.cps.toList i=ae c/\Q (.e ⟨#[c]⟩) H
def v5:vC X (PD X.K):=by
 intro b c g s f H x y v u Q I P R h L;obtain⟨p,n,i,z,rfl,rfl,S,T,q⟩:=h
 cases P
 obtain⟨t,rfl⟩:=R;obtain⟨e,r,B,o⟩:=I.J S;obtain⟨j,d,U,C,Y,Z⟩:=IF T;obtain⟨w,M,G⟩:=r.ld U;have m:=r.J;have A:=qk;have a:EP X g f Q w s:=⟨z,H,I,G,q⟩
 by_cases k:0<=i
 .have J:i.toNat=j:=by
   rw[kC k Z]at d;exact bv d
  exact item_listR B.isList k oZ (by rw[J];simpa using M) a L
 .have J:(i+(e.toArray.size:Int)).toNat=j:=by
   rw[seqIndex_neg oZ Y]at d;rw[aA,<-m];exact bv d
  exact jw (x:=w) B.isList.typeIs iQ.lookup
   (wpAny_getItem_list_neg (Q:=λr l=>r=w/\EP X g f Q r l) B.isList oZ (by rw[aA]<;>lia) oZ (by rw[J];simpa using M) ⟨rfl,a⟩) L
def YM:vC X (PB X.K):=by
 intro a b g s f H x y v u Q I B G h J;obtain⟨p,Z,i,z,rfl,rfl,L,M,q⟩:=h
 cases B
 obtain⟨t,rfl⟩:=G;obtain⟨P,r,e,k⟩:=I.mt L;obtain⟨j,R,S,o,n,m⟩:=IF M;obtain⟨w,T,d⟩:=r.ld S;have U:=r.J;have l:=qk;have c:EP X g f Q w s:=⟨z,H,I,d,q⟩;exact jw (x:=w) e.typeIs slot_tuple_getitem.lookup
  (getItem_tuple (j:=j) (Q:=λr Y=>r=w/\EP X g f Q r Y) e oZ oZ (by rw[aA,<-U];exact R) (by simpa using T) ⟨rfl,c⟩) J
def YN:vC X yy:=by
 intro a b g s f H x y v u Q I e B h G;obtain⟨z,i,c,rfl,rfl,U,J,q⟩:=h;obtain⟨t,rfl⟩:=e;obtain⟨Y,rfl⟩:=B;obtain⟨j,d,L,Z,M,P⟩:=IF J;have R:z.cps.toList.length=z.length:=by simp[Str.length]
 rw[R]at d M P;have k:=qk;exact tail_any (dI s z t) slot_str_getitem.lookup (getItem_str (c:=c) (by
  have S:decide (i< -(2^63:Int))=au:=ba oZ;have T:decide (i>=2^63)=au:=ba oZ;rw[S,T,nM]) (by rw[d];simpa using L) ⟨.e ⟨#[c]⟩,H,I.Z _,⟨_,rfl⟩,q⟩) G
def Rk(its:List ai)(n j:Nat)(u:ai):gh (·.setIfInBounds j u) {cls:= .type "list",data:= .seq its.toArray n}={cls:= .type "list",data:= .seq (its.set j u).toArray n}:=by
 simp[gh]
def Inv.lst{O:pz}{s:ak}(I:Inv X pb O H s)(h:H p=ae (.a xs)):
 ∃ (d:List ai) (n:Nat),Vals xs d/\s.heap.get? p=ae {cls:= .type "list",data:= .seq d.toArray n}/\xs.length<=sizeLine:=by
 obtain⟨z,d,n,r,e⟩:=I.a p _ h;exact⟨d,n,r,e,z⟩
def Inv.wX{O:pz}{s:ak}{k:Nat}{f:Obj->Obj}(I:Inv X pb O H s)(h:H p=ae (.a xs))
 (i:s.heap.get? p=ae {cls:= .type "list",data:= .seq its.toArray n}) (d:f {cls:= .type "list",data:= .seq its.toArray n}={cls:= .type "list",data:= .seq its'.toArray k}) (r:Vals ys its') (j:ys.length<=sizeLine) (t:Nat):
 Inv X pb O (upd H p (.a ys)) {s with heap:=s.heap.update p f,toks:=t}:=by
 have e:(s.heap.update p f).get? p=ae {cls:= .type "list",data:= .seq its'.toArray k}:=by
  rw[bB f i (by rw[d]<;>rfl),d]
 refine I.write (x:=p) (e:=p) (by rw[h];trivial) (.inl rfl) (λb u y q=>(bO _ _ (cV y)).trans q) ⟨_,e⟩ ?_;exact⟨j,its',k,r,e⟩
def wg:V->V->V->Hp->(Hp->Prop)->Prop:=λo i v H Q=>∃p d k j,o= .b p/\i= .a k/\H p=ae (.a d)/\qW d.length k=ae j/\Q (upd H p (.a (d.set j v)))
def Bf:JN X wg:=by
 intro f s b H o i v T U u Q I L M c h;obtain⟨p,P,k,j,rfl,rfl,z,R,q⟩:=h
 cases L
 obtain⟨t,rfl⟩:=M;obtain⟨d,n,r,x,S⟩:=I.lst z;obtain⟨e,Y,B,G⟩:=Mx R;have y:=r.J;have Z:=qk;have J:Inv X f b (upd H p (.a (P.set j v))) {s with heap:=s.heap.update p (gh (·.setIfInBounds j u))}:=
  I.wX z x (Rk d n j u) (r.set c j) (by rw[jW];exact S) s.toks
 by_cases a:0<=k
 .have hk:k.toNat=j:=by
   rw[kC a G]at e;exact bv e
  exact W.ki_setAt x a oZ (by rw[aA,<-y];exact G) (by rw[hk];exact⟨_,J,q⟩)
 .have hk:(k+(d.toArray.size:Int)).toNat=j:=by
   rw[seqIndex_neg oZ B]at e;rw[aA,<-y];exact bv e
  exact W.ki_setBack x oZ (by rw[aA,<-y];exact B) oZ (by rw[hk];exact⟨_,J,q⟩)
def QR(k l:Option Int)(n:Nat):(f9 k l none n).1=((qj n 0 k:Nat):Int)/\(f9 k l none n).2.1=((qj n n l:Nat):Int)/\(f9 k l none n).2.2=1:=by
 refine⟨?_,?_,rfl⟩
 .cases k with
  |none=>simp[f9,qj]
  |some i=>
   simp only[f9,qj,jm,show(1:Int)>0 by decide,gG]
   by_cases h:i<0
   .simp only[h,gG]<;>lia
   .simp only[h,gX]<;>lia
 .cases l with
  |none=>simp[f9,qj]
  |some i=>
   simp only[f9,qj,jm,show(1:Int)>0 by decide,gG]
   by_cases h:i<0
   .simp only[h,gG]<;>lia
   .simp only[h,gX]<;>lia
def QI(its:List ai)(h k:Option Int):mG its.toArray h k none=((its.drop (qj its.length 0 h)).take (qj its.length its.length k-qj its.length 0 h)).toArray:=by
 obtain⟨d,e,i⟩:=QR h k its.toArray.size;unfold mG;rw[d,e,i];simp only[sliceRange_one,pick_run,aA]<;>rfl
def O9(K:aB):V->Option Int->Option Int->Hp->VK->Prop:=λx lo b H Q=>∃a d,x= .b a/\pq K H a d/\∀p,H p=none->Q (.b p) (upd H p (.a (C7 d lo b)))
def VH:wC X (O9 X.K):=by
 intro k s g H x v L M c f P Q I i j y z h;obtain⟨a,d,rfl,B,q⟩:=h
 cases i
 obtain⟨G,r,ht,J⟩:=I.J B;have e:=r.J;refine⟨"list",_,iQ.lookup,ht.isList.typeIs,?_⟩;refine iM ht.isList j y z .none b' ?_ (by rw[aA]<;>lia);rw[QI,<-e];refine⟨.b s.1.1.size,_,I.mp (t':=s.toks) (o:= .a (C7 d c f)) (λb l q=>af _ q) (am _) ?_,rfl,q _ (I.a.J (am _))⟩;exact⟨bw (RC d c f) J,_,0,(r.drop (qj d.length 0 c)).mt (qj d.length d.length f-qj d.length 0 c),aq _ rfl⟩
def BB:V->Bool
 | .d=>aw
 | .c _=>aw
 | .a _=>aw
 | .e _=>aw
 |_=>au
def rM:V->V->Bool
 | .d, .d=>aw
 | .c a, .c b=>a==b
 | .c a, .a b=>(if a then 1 else 0)==b
 | .a a, .c b=>a==(if b then 1 else 0)
 | .a a, .a b=>a==b
 | .e a, .e b=>a==b
 |_,_=>au
def vZ(i j:Int):rM (.a i) (.a j)=(i==j):=rfl
def N6{s:ak}{y:V}{u v:ai}(i:RelV y u)(d:RelV x v)(z:BB y=aw)(j:BB x=aw):nk A s u v (rM y x):=by
 cases y with
 |d=>
  cases i
  cases x with
  |d=>cases d;exact SeqAt.EqAt.same _
  |c b=>cases d;exact SeqAt.EqAt.none_bool b
  |a b=>obtain⟨t,rfl⟩:=d;exact SeqAt.EqAt.none_int b t
  |e b=>obtain⟨t,rfl⟩:=d;exact SeqAt.EqAt.none_str b t
  |_=>exact absurd (show au=aw from j) av
 |c a=>
  cases i
  cases x with
  |d=>cases d;exact SeqAt.EqAt.bool_none a
  |c b=>cases d;exact SeqAt.EqAt.bool_bool a b
  |a b=>obtain⟨t,rfl⟩:=d;exact SeqAt.EqAt.bool_int a b t
  |e b=>obtain⟨t,rfl⟩:=d;exact SeqAt.EqAt.bool_str a b t
  |_=>exact absurd (show au=aw from j) av
 |a a=>
  obtain⟨e,rfl⟩:=i
  cases x with
  |d=>cases d;exact SeqAt.EqAt.int_none a e
  |c b=>cases d;exact SeqAt.EqAt.int_bool a e b
  |a b=>obtain⟨t,rfl⟩:=d;exact SeqAt.EqAt.int_int a e b t
  |e b=>obtain⟨t,rfl⟩:=d;exact lf a e b t
  |_=>exact absurd (show au=aw from j) av
 |e a=>
  obtain⟨e,rfl⟩:=i
  cases x with
  |d=>cases d;exact SeqAt.EqAt.str_none a e
  |c b=>cases d;exact SeqAt.EqAt.str_bool a e b
  |a b=>obtain⟨t,rfl⟩:=d;exact lc a e b t
  |e b=>obtain⟨t,rfl⟩:=d;exact SeqAt.EqAt.str_str a e b t
  |_=>exact absurd (show au=aw from j) av
 |_=>exact absurd (show au=aw from z) av
def tU(x:V)(u:ai):Bool:=match u with
 | .none=>rM .d x
 | .bool b=>rM (.c b) x
 | .int i _=>rM (.a i) x
 | .str z _=>rM (.e z) x
 |_=>au
def N5{y:V}{u:ai}(r:RelV y u)(f:BB y=aw):tU x u=rM y x:=by
 cases y with
 |d=>cases r;rfl
 |c b=>cases r;rfl
 |a i=>obtain⟨t,rfl⟩:=r;rfl
 |e z=>obtain⟨t,rfl⟩:=r;rfl
 |_=>exact absurd (show au=aw from f) av
theorem Eh{d:gr}{us:List ai}(h:Vals d us)(f:d.all BB=aw):us.any (tU x)=d.any λy=>rM y x:=by
 induction h with
 |nil=>rfl
 |cons r t i=>rw[gM,aW]at f;rw[dG,dG,N5 r f.1,i f.2]
theorem EZ{s:ak}{v:ai}(i:RelV x v)(j:BB x=aw):∀ {d:gr} {e:List ai},Vals d e->d.all BB=aw->∀u∈e,nk A s u v (tU x u)
 |_,_, .nil,_=>λu hu=>by cases hu
 |y::d,u::e, .cons r t,f=>λz hu=>by
  rw[gM,aW]at f;rcases aL.mp hu with rfl|hu
  .rw[N5 r f.1];exact N6 r i f.1 j
  .exact EZ i j t f.2 z hu
def su(x:V)(xs:gr):Bool:=xs.any λy=>rM y x
def xZ(K:aB)(e:Bool):R2:=λx y H Q=>∃p d,y= .b p/\(pq K H p d\/pX K H p d)/\BB x=aw/\d.all BB=aw/\Q (.c (if e then !su x d else su x d)) H
def SY:pZ X (bu .In) (xZ X.K au):=by
 intro c s b H x y v u Q I j B h;obtain⟨p,J,rfl,hq,z,a,q⟩:=h
 cases B
 rcases hq with hq|hq
 .obtain⟨d,r,e,G⟩:=I.J hq;refine SeqAt.in_listAt (tU x) e.isList (λw i=>EZ j z r a w (by simpa using i)) ⟨.c _,H,I,rfl,?_⟩;rw[show d.toArray.any (tU x)=d.any (tU x) by simp,Eh r a];exact q
 .obtain⟨d,r,e,G⟩:=I.mt hq;refine SeqAt.in_tupleAt (tU x) e (λw i=>EZ j z r a w (by simpa using i)) ⟨.c _,H,I,rfl,?_⟩;rw[show d.toArray.any (tU x)=d.any (tU x) by simp,Eh r a];exact q
def QT:pZ X (bu .NotIn) (xZ X.K aw):=by
 intro c s b H x y v u Q I j B h;obtain⟨p,J,rfl,hq,z,a,q⟩:=h
 cases B
 rcases hq with hq|hq
 .obtain⟨d,r,e,G⟩:=I.J hq;refine SeqAt.notIn_listAt (tU x) e.isList (λw i=>EZ j z r a w (by simpa using i)) ⟨.c _,H,I,rfl,?_⟩;rw[show d.toArray.any (tU x)=d.any (tU x) by simp,Eh r a];exact q
 .obtain⟨d,r,e,G⟩:=I.mt hq;refine SeqAt.notIn_tupleAt (tU x) e (λw i=>EZ j z r a w (by simpa using i)) ⟨.c _,H,I,rfl,?_⟩;rw[show d.toArray.any (tU x)=d.any (tU x) by simp,Eh r a];exact q
def Qe:pH X (.builtin "len") (λy H Q=>∃p e,y=[.b p]/\(pq X.K H p e\/pX X.K H p e)/\Q (.a e.length) H):=by
 intro b s a H y G Q I r h;obtain⟨p,e,rfl,hq,q⟩:=h;obtain⟨u,rfl,z⟩:=vals1 r
 cases z
 have J:=qk;rcases hq with hq|hq
 .obtain⟨i,j,x,B⟩:=I.J hq;have d:=j.J;exact Calls.call_len_list x.isList (by simp only[aA]<;>lia) ⟨.a e.length,H,I.Z _,⟨s.toks+1,by rw[aA,d]⟩,q⟩
 .obtain⟨i,j,x,B⟩:=I.mt hq;have d:=j.J;exact len_tuple x (by simp only[aA]<;>lia) ⟨.a e.length,H,I.Z _,⟨s.toks+1,by rw[aA,d]⟩,q⟩
def Qd:pH X (.builtin "len") (λd H Q=>∃z,d=[.e z]/\z.length<=sizeLine/\Q (.a z.length) H):=by
 intro b s a H d e Q I r h;obtain⟨z,rfl,i,q⟩:=h;obtain⟨u,rfl,t,rfl⟩:=vals1 r;have j:=qk;exact len_str oZ ⟨.a z.length,H,I.Z _,⟨_,rfl⟩,q⟩
def pH.J{f:ai}{r k:gr->Hp->VK->Prop}(h:pH X f r)(h':pH X f k):pH X f (λd H Q=>r d H Q\/k d H Q):=by
 intro c s a H d e Q I b q;rcases q with q|q
 .exact h c s a H d e Q I b q
 .exact h' c s a H d e Q I b q
def Qc:pH X (.type "list") (λM H Q=>∃p j,M=[.b p]/\(pq X.K H p j\/pX X.K H p j)/\∀l,H l=none->Q (.b l) (upd H l (.a j))):=by
 intro k s g H M S Q I r h;obtain⟨p,j,rfl,hq,q⟩:=h;obtain⟨u,rfl,R⟩:=vals1 r
 cases R
 have c:∀ (d:List ai),Vals j d->j.length<=sizeLine->∀ (i:dg) (x:Nat),(∀b P,s.heap.get? b=ae P->i.get? b=ae P)->
  i.get? s.1.1.size=ae {cls:= .type "list",dict:=none,data:= .seq d.toArray x,slots:= #[]}->EP X k g Q (.ref s.1.1.size) {s with heap:=i}:=λd y z i x a e=>
  ⟨.b s.1.1.size,_,I.mp (t':=s.toks) a (am _) (show pE X.d X.w _ i _ (.a j)from⟨z,d,x,y,e⟩),rfl,q _ (I.a.J (am _))⟩
 rcases hq with hq|hq
 .obtain⟨d,y,G,z⟩:=I.J hq;have B:=y.J;obtain⟨o,J,L,n,f⟩:=G.isList;exact call_list_seq p (.inl rfl) J L f (λi x a e=>c d y z i x a e) (by simp only[aA]<;>lia)
 .obtain⟨d,y,G,z⟩:=I.mt hq;have B:=y.J;obtain⟨o,J,L,n,f⟩:=G;exact call_list_seq p (.inr rfl) J L f (λi x a e=>c d y z i x a e) (by simp only[aA]<;>lia)
def wJ(K:aB)(T:String)(x:V)(H:Hp):Prop:=match x with
 | .e _=>T="str"
 | .a _=>T="int"
 | .b p=>(T="list"/\∃d,pq K H p d)\/(T="tuple"/\∃o,K.lookup p=ae o/\o.cls= .type "tuple"/\o.dict=none)\/
     (T="dict"/\((∃ph,H p=ae (.d ph))\/∃ph,H p=ae (.g ph)))\/(T="set"/\∃S n,H p=ae (.i S n))
 |_=>False
def NL{O:pz}{s:ak}{T:String}{v:ai}(I:Inv X pb O H s)(r:RelV x v)(h:wJ X.K T x H):
 s.TypeIs v T/\∀a,v= .ref a->∃ob,s.heap.get? a=ae ob/\ob.dict=none:=by
 cases x with
 |e z=>
  obtain⟨t,rfl⟩:=r
  cases(show T="str" from h)
  exact⟨dI s z t,λ_ e=>nomatch e⟩
 |a i=>
  obtain⟨t,rfl⟩:=r
  cases(show T="int" from h)
  exact⟨nb s i t,λ_ e=>nomatch e⟩
 |b p=>
  cases r
  rcases h with⟨rfl,m,k⟩|⟨rfl,o,hk,l,f⟩|⟨rfl,hk⟩|⟨rfl,S,n,hk⟩
  .obtain⟨y,_,j,_⟩:=I.J k;refine⟨j.isList.typeIs,λa e=>?_⟩
   cases e
   obtain⟨o,n,e,c,f,_⟩:=j;exact⟨o,e,f⟩
  .refine⟨⟨o,I.qB p o hk,l⟩,λa e=>?_⟩
   cases e
   exact⟨o,I.qB _ o hk,f⟩
  .have z:∃o,s.heap.get? p=ae o/\o.ExactDict:=by
    rcases hk with⟨g,hk⟩|⟨g,hk⟩
    .obtain⟨_,_,_,_,o,_,_,e,b,_⟩:=I.a p _ hk;exact⟨o,e,b⟩
    .obtain⟨_,_,_,_,o,_,_,e,b,_⟩:=I.a p _ hk;exact⟨o,e,b⟩
   obtain⟨o,e,b⟩:=z;refine⟨⟨o,e,b.1⟩,λa d=>?_⟩
   cases d
   exact⟨o,e,b.2.1⟩
  .obtain⟨o,_,_,_,e,b,_⟩:=I.a p _ hk;refine⟨⟨o,e,b.1⟩,λa d=>?_⟩
   cases d
   exact⟨o,e,b.2.1⟩
 |_=>exact bH h
def JF(K:aB)(T:String)(r:V->gr->Hp->VK->Prop)(e:TE):TE:=λa H Q=>e a H λx d=>wJ K T x d/\r x [] d Q
def yv(K:aB)(T:String)(r:V->gr->Hp->VK->Prop)(e:TE)(t:TA):TE:=λa H Q=>e a H λx d=>wJ K T x d/\t a d λi j=>r x i j Q
variable{o:dH}{to:TE}{t:TA}{name:Str}{apos cpos:Pos}{T id:String}{r:V->gr->Hp->VK->Prop}
def X2(l:lJ T)(k:Slot T name id)(j:oG (.builtin id)=pure (.type "method_descriptor"))(B:wb X id r)(G:PE X o to)
 (d:eh o name X.a (eval o X.a)=eval o X.a<|>n') (i:(apos.endLine==cpos.line)=aw<|>n'):PE X (.Call (.Attribute o name apos) [] [] cpos) (JF X.K T r to):=by
 intro b s a H Q I h;refine wpAny_Call_method0_late d i (pB (G b s a H _ I h) λv J L=>?_);obtain⟨x,M,y,z,c,P⟩:=L;obtain⟨R,S⟩:=NL y z c;exact⟨T,id,l,k,j,R,S,dU rfl (PySem.evalArgs_none (B b J a M x [] v [] Q y z .nil P))⟩
def ZL(q:lJ T)(k:Slot T name id)(z:oG (.builtin id)=pure (.type "method_descriptor"))(L:wb X id r)(M:PE X o to)(P:PA X (e::es) t)
 (i:eh o name X.a (eval o X.a)=eval o X.a<|>n')
 (y:((dN cpos (aI (e::es) X.a)).all (λx=> !x.1)&&(iA cpos (fD [] X.a)).all (λx=>x.1.isSome)
   &&decide ((e::es).length+([]:List kJ).length+(if([]:List kJ).isEmpty then 0 else 1)<30))=aw<|>n')
 (j:(apos.endLine==cpos.line)=aw<|>n') (R:qr X e es<|>n') (d:(dN cpos (aI es X.a)).any (·.1)=au<|>n'):
 PE X (.Call (.Attribute o name apos) (e::es) [] cpos) (yv X.K T r to t):=by
 intro b s a H Q I h;refine wpAny_Call_method_late i y j rfl (pB (M b s a H _ I h) λv S U=>?_);obtain⟨x,Y,B,G,g,Z⟩:=U;obtain⟨u,p⟩:=NL B G g;refine⟨T,id,q,k,z,u,p,?_⟩;have J:=P cpos b S a Y _ B Z;rw[R]at J⊢;refine dU (by show(au||(dN cpos (aI es X.a)).any (·.1))=au;rw[d]<;>rfl) (eR ?_);exact pB J λf l ⟨c,A,w,m,n⟩=>L b l a A x c v f Q w G m n
end
def xQ(X:Cx)(id:String)(r:V->gr->Hp->VK->Prop):Prop:=
 ∀ (pb:List (ay×Obj)) (s:ak) (a:pz) (H:Hp) (x:V) (b:gr) (v:ai) (d:List ai) (Q:VK),Inv X pb a H s->RelV x v->Vals b d->r x b H Q->
   aO (aV X.d X.w) X.A (call (.builtin id) (v::d)) (EP X pb a Q) X.xe s
theorem Vals.Z{x:V}{us:List ai}(h:Vals [x] us):∃u,us=[u]/\RelV x u:=by
 cases h with|cons r t=>cases t;exact⟨_,rfl,r⟩
theorem Vals.zero:∀ {b:List ai},Vals [] b->b=[]
 |_, .nil=>rfl
def Vals.mp(h:Vals xs us):Vals xs.dropLast us.dropLast:=by
 induction h with
 |nil=>exact .nil
 |cons r t b=>
  cases t with
  |nil=>exact .nil
  |cons q d=>exact .cons r b
theorem Vals.rep(h:Vals xs us):∀k:Nat,Vals (aZ k xs).flatten (aZ k us).flatten
 |0=> .nil
 |k+1=>by
  rw[ci,ci,cu,cu];exact Vals.ap h (Vals.rep h k)
def Rr(l:List α):l.eraseIdx (l.length-1)=l.dropLast:=by
 induction l with
 |nil=>rfl
 |cons a r d=>
  cases r with
  |nil=>rfl
  |cons b r=>
   have e:(a::b::r).length-1=((b::r).length-1)+1:=by
    have i:(a::b::r).length=r.length+2:=rfl;have j:(b::r).length=r.length+1:=rfl;lia
   rw[e,List.eraseIdx_cons_succ,d]
   all_goals rfl
theorem Kw(its:List ai):∀ (k:Nat) (b:List ai),
 nu (λd i=>d++i) b.toArray (aZ k its.toArray)=(b++(aZ k its).flatten).toArray
 |0,b=>by simp
 |k+1,b=>by
  have e:b.toArray++its.toArray=(b++its).toArray:=by simp
  have j:(b++its)++(aZ k its).flatten=b++(aZ (k+1) its).flatten:=by
   rw[ci,cu,fQ]
  rw[<-j,<-Kw its k (b++its),<-e,ci,mT]
section
variable{O:pz}{s:ak}{l b:ay}{zs:gr}
def Inv.xI(I:Inv X pb O H s)(d:H l=ae (.a xs))
 (e:s.heap.get? l=ae {cls:= .type "list",data:= .seq its.toArray n}) (i:f its.toArray=its'.toArray) (j:Vals ys its') (y:ys.length<=sizeLine):
 Inv X pb O (upd H l (.a ys)) {s with heap:=s.heap.update l (gh f),toks:=t'}:=by
 have q:=PySem.IsL.update e f;rw[i]at q;refine I.write (x:=l) (e:=l) (by rw[d];exact trivial) (.inl rfl) (λG u z B=>(bO s.heap (gh f) (cV z)).trans B) ⟨_,q⟩ ?_;exact⟨y,its',_,j,q⟩
def Inv.xJ(I:Inv X pb O H s)(d:Vals ys its)(e:ys.length<=sizeLine):
 Inv X pb O (upd H s.1.1.size (.a ys)) {s with heap:=s.heap.push {cls:= .type "list",data:= .seq its.toArray},toks:=t'}:=
 I.mp (λ_ _ q=>af _ q) (am _) ⟨e,its,0,d,aq _ rfl⟩
def Inv.fresh(I:Inv X pb O H s):H s.1.1.size=none:=I.a.J (am _)
def Inv.tm(I:Inv X pb O H s)(i:H l=ae (.a xs)):xs.length<=sizeLine/\∃ (d:List ai) (n:Nat),Vals xs d/\xs.length=d.length/\s.heap.get? l=ae {cls:= .type "list",data:= .seq d.toArray n}:=by
 obtain⟨z,d,n,r,e⟩:=I.a l _ i;exact⟨z,d,n,r,r.J,e⟩
def Uh(h:n<=sizeLine):gu n=au:=by
 unfold gu;exact ba oZ
end
def vW:V->gr->Hp->VK->Prop:=λx vs H Q=>∃l b y,x= .b l/\vs=[y]/\H l=ae (.a b)/\b.length<sizeLine/\Q .d (upd H l (.a (b++[y])))
def B7:xQ X "list.append" vW:=by
 intro f s a H x c v B Q I i rv h;obtain⟨l,G,y,rfl,rfl,d,J,q⟩:=h
 cases i
 obtain⟨u,rfl,j⟩:=rv.Z;obtain⟨z,b,n,r,L,e⟩:=I.tm d;refine dJ F.slot_list_append ⟨_,e,rfl⟩ F.entry_list_append (F.args_list_append_2 _ _) (PySem.list_append l b.toArray n u (by rw[aA];lia)) ⟨e,?_⟩;refine⟨.d,_,I.xI (its':=b++[u]) d e b' (r.ap (.cons j .nil)) ?_,rfl,q⟩;rw[aN,hH];lia
def yx:V->gr->Hp->VK->Prop:=λx vs H Q=>∃l b y,x= .b l/\vs=[]/\H l=ae (.a b)/\b[b.length-1]? =ae y/\Q y (upd H l (.a b.dropLast))
def IU:xQ X "list.pop" yx:=by
 intro f s a H x c v P Q I B rv h;obtain⟨l,R,y,rfl,rfl,j,G,q⟩:=h
 cases B
 have d:=rv.zero;subst d;obtain⟨z,b,n,r,J,e⟩:=I.tm j;obtain⟨u,L,M⟩:=r.ld G;have i:b.toArray[b.toArray.size-1]? =ae u:=by
  show b.toArray[b.length-1]? =ae u;rw[<-cg,<-J];exact L
 refine dJ F.slot_list_pop ⟨_,e,rfl⟩ F.entry_list_pop (F.args_list_pop_1 _) (MeetsSeq.list_pop_last l b.toArray n u i (by rw[aA];lia)) ⟨e,?_⟩;refine⟨y,_,I.xI (its':=b.dropLast) j e ?_ r.mp ?_,M,q⟩
 .show b.toArray.eraseIdxIfInBounds (b.toArray.size-1)=b.dropLast.toArray;rw[aA,List.eraseIdxIfInBounds_toArray,Rr]
 .rw[ia];lia
def xD:R2:=λx y H Q=>∃l b d e,x= .b l/\y= .b b/\H l=ae (.a d)/\H b=ae (.a e)/\d.length+e.length<=sizeLine/\∀p,H p=none->Q (.b p) (upd H p (.a (d++e)))
def YB:pZ X (eN .Add) xD:=by
 intro f s a H x y v u Q I j B h;obtain⟨l,b,T,U,rfl,rfl,G,J,Y,q⟩:=h
 cases j
 cases B
 obtain⟨z,i,n,r,Z,e⟩:=I.tm G;obtain⟨c,d,g,L,M,R⟩:=I.tm J;refine PySem.P.add_list e R ?_ (by rw[aA,aA];lia);have S:i.toArray++d.toArray=(i++d).toArray:=by simp
 rw[S];exact⟨.b _,_,I.xJ (t':=s.toks) (r.ap L) (by rw[aN];lia),rfl,q _ I.fresh⟩
def wQ:R2:=λx y H Q=>∃l k b,x= .b l/\y= .a k/\H l=ae (.a b)/\ -(2^63)<=k/\k<2^63/\b.length*k.toNat<=sizeLine/\
 ∀p,H p=none->Q (.b p) (upd H p (.a (aZ k.toNat b).flatten))
def WH(xs:List α)(k:Nat):(aZ k xs).flatten.length=k*xs.length:=by
 induction k with
 |zero=>simp
 |succ k b=>rw[ci,cu,aN,b,Nat.succ_mul,Nat.add_comm]
def vo:pZ X (eN .Mult) wQ:=by
 intro A s o H x y v u Q I P R h;obtain⟨l,k,p,rfl,rfl,S,Y,Z,M,q⟩:=h
 cases P
 obtain⟨t,rfl⟩:=R;obtain⟨z,b,n,r,f,e⟩:=I.tm S;have i:b.toArray.size*k.toNat<=sizeLine:=by rw[aA,<-f];exact M
 have j:¬b.toArray.size*k.toNat>(2^63-1)/8:=by
  have:(sizeLine:Nat)<=(2^63-1)/8:=by decide
  lia
 have B:¬ (!dR.List.listFitsIndex k)=aw:=by
  rw[fitsIndex_both Y Z];exact av
 have d:¬gu (b.toArray.size*k.toNat)=aw:=by
  rw[Uh i];exact av
 have G:nu (λJ L=>J++L) #[] (aZ (if b.toArray.isEmpty=aw then 0 else k.toNat) b.toArray)=(aZ k.toNat b).flatten.toArray:=by
  have g:∀m:Nat,nu (λJ L=>J++L) #[] (aZ m b.toArray)=(aZ m b).flatten.toArray:=λm=>by
   have:=Kw b m [];rw[mS]at this;exact this
  rw[g]
  cases b with
  |nil=>simp
  |cons a w=>rw[aP (by simp)]
 refine wpAny_binaryOp_repeat_ref (T:="list") (U:="int") oY ⟨_,e,rfl⟩ (λc=>nb c k t) noFill_list_mul F.fills_int_mul F.slot_int_rmul repeat_list F.slot_int_index.lookup
  (dJ F.slot_int_rmul (nb s k t) F.entry_int_rmul (F.args_int_rmul_2 _ _) (int___rmul___int_list k t l b.toArray n)
    ⟨e,rfl,⟨_,e,rfl⟩,dJ F.slot_list_mul ⟨_,e,rfl⟩ F.entry_list_mul (F.args_list_mul_2 _ _) (AutoListH.list___mul___list_int_3 l b.toArray n k t B j d) ⟨e,?_⟩⟩)
 rw[G];exact⟨.b _,_,I.xJ (t':=s.toks) (r.rep k.toNat) (by rw[WH,Nat.mul_comm];exact M),rfl,q _ I.fresh⟩
end
section
open PySem.W PySem.Calls
variable{loose:hE}{vals:List ai}{args:List WData}{P:Params}{q:bW}{YP:dh->dg->Prop}
def P6{h:dg}:∀ (ns:hO) (vs:List ai),WellAll P h vs (ns.map oK)->iI vs ns:=by
 intro ns
 induction ns with
 |nil=>
  intro vs w;rw[fH]at w
  cases w
  exact .nil
 |cons n ns d=>
  intro vs w;rw[aY]at w
  cases w with
  |cons a b=>
   cases a
   exact .cons _ _ (d _ b)
def SF{l:OpenLaw}(G:l.most=ae n){h:dg}
 (b:l.row.toRowW.claim.pre args=aw) (y:WellAll P h vals args):
 ∃a vs ns,vals=[aj a]/\args=[WData.list (ns.map oK)]/\h.get? a=ae {cls:= .type "list",data:= .seq vs.toArray}/\iI vs ns/\ns.length<=n:=by
 have z:WShape.hasAll [] args [.list .int]=aw:=(pre_splitW b).1;have B:l.pre.holds [] {args:=args}=aw:=(pre_splitW b).2;obtain⟨d,r,rfl,H,I⟩:=hasAllW_cons z;obtain rfl:=hasAllW_nil I;obtain⟨S,rfl,J⟩:=hasW_list H;obtain⟨ns,rfl⟩:=items_int J;have e:ns.length<=n:=by
  unfold OpenLaw.pre at B;have j:(WTm.not (.lt (.lit (.int (n:Int))) (.len (.arg 0)))).holds [] {args:=[.list (ns.map .int)]}=aw:=by
   have j:=(holds_andW B).1;rw[G]at j;exact j
  have x:=condW_of j (w_not (w_lt w_lit (w_len_list (w_arg rfl))));rw[az]at x;refine jp λq=>?_;have L:(n:Int)<((ns.length:Nat):Int):=by lia
  first
   |(rw[be L]at x;exact absurd x oY)
   |(simp at x;lia)
 cases y with
 |cons M Q=>
  cases Q
  cases M with
  |list R i=>exact⟨_,_,ns,rfl,rfl,R,P6 ns _ i,e⟩
def SL(l:OpenLaw)(h:List WData):l.row.toRowW.claim.post h (.bool aw) h=aw:=
 postW_of (r:=l.row.toRowW) (X:=(aw==aw))
  (show oI [] (.bool aw) .bool=aw by first|rfl|decide|simp[oI,WShape.arms,WShape.armsAll])
  (show(WTm.eq .res (.lit (.bool aw))).value [] {args:=h,res:=ae (.bool aw),after:=h}=ae (.bool (aw==aw))from w_eq_bool (w_res rfl) w_lit) rfl
def tD{l:OpenLaw}{d:DefRec}
 (S:l.most=ae n) (H:d.params.defaults=[])
 (h:∀ (w:dh) (c b:ak) (mg I:Str->Option ai) (g:ay) (o:Obj) (J z e:ai) (a:ay) (vs:List ai) (ns:hO),
   Ground q loose [] XP w c mg I b.heap->YP w b.heap->
   b.heap.get? g=ae o->o.data= .func (docDef d.name d.params d.body d.scope J z e)->b.heap.CodeRec z d.name->mg d.name=ae (.ref g)->
   b.heap.get? a=ae {cls:= .type "list",data:= .seq vs.toArray}->iI vs ns->ns.length<=n->b.gens= #[]->
   dM (aV l.prog w) lG (.call (.ref g) ⟨[.ref a],[]⟩) (λr B=>r= .ok (.ret (.bool aw))/\OldK b.heap B.heap/\B.os=b.os/\iK B.gens) b):
 WalkO q loose XP YP l.row.toRowW d [] (λf vs=>oJ f vs):=by
 intro w c b mg I G Y g o J z e T p U v L Q M u m k E j R X P Z;obtain rfl:T= .none:=Dflts.none Q H;obtain rfl:p= .none:=Dflts.noKw Q;obtain⟨a,vs,ns,rfl,rfl,x,i,y⟩:=SF S j P;refine enter_call (dB (h w c b mg I g o J z e a vs ns G Y U (fd_plain v) L M x i y u) λr B s=>?_);obtain⟨rfl,D,C,A⟩:=s;exact⟨.inl ⟨.bool aw, .bool aw,[],rfl,λ_=>rfl, .bool aw,SL l _,λ_=>⟨lO,λ_ t=>(nomatch t)⟩⟩,D,C,A⟩
end
section
variable{a f:ay}{osl:Array (Option ai)}{loose:hE}{vs:List ai}{K:Params->aB}{q:bW}{A B:Prop}{CX:dh->wc}{YP:dh->dg->Prop}{sp:dh->Sp}
theorem Gq{vs:List ai}{ns:hO}(h:iI vs ns):Vals (ns.map V.a) vs:=by
 induction h with
 |nil=>exact .nil
 |cons n t h i=>exact .cons ⟨t,rfl⟩ i
def JO(H:Hp):Prop:=∀b,H b=none\/∃o d,H b=ae (.e o (.a d))
def Uk{K:aB}{N:Str->Option ai}{CX:wc}{k:Nat}{O:ay}{sp:Sp}{s₁:ak}
 (KX:K.In s₁.heap) (B:s₁.heap.Ns bq mg) (j:s₁.heap.Ns nh N) (T:∀x:Str,x≠"__name__"->N x=fE x) (L:s₁.heap.NoLimit) (hg:s₁.gens= #[])
 (S:s₁.heap.get? a=ae {cls:= .type "list",data:= .seq vs.toArray}) (hi:iI vs ns) (C:ns.length<=sizeLine) (hr:pM k lG)
 (F:∀base:dg,K.In base->base.Ns bq mg->pV P w K mg base CX k O fd [x] sp) (J:∀ (s:ak) (u:ai),lT s fd ⟨[u],[]⟩ [(x,u)])
 (U:∀H:Hp,JO H->pq K H a (ns.map V.a)->sp [.b a] H (λv _=>v= .c aw) λ_ _ _=>False)
 (X:∀H e y,CX [] H s₁ (λ_ _ _=>False) e y->False):
 dM (aV P w) lG (.call (.ref O) ⟨[.ref a],[]⟩) (λr y=>r= .ok (.ret (.bool aw))/\OldK s₁.heap y.heap/\y.os=s₁.os/\iK y.gens) s₁:=by
 have A:=Gq hi;have M:=hi.length;have c:∀H:Hp,JO H->pq K H a (ns.map V.a)->qG P w H s₁.heap->(∀b,H b≠none->b=a)->(H a≠none->K.lookup a=none)->
  dM (aV P w) lG (.call (.ref O) ⟨[.ref a],[]⟩) (λr y=>r= .ok (.ret (.bool aw))/\OldK s₁.heap y.heap/\y.os=s₁.os/\iK y.gens) s₁:=by
  intro H D hS f E hK;have i:∀ {b:ay} {o:Obj},s₁.heap.get? b=ae o->H b=none->(C0 s₁.heap H).get? b=ae o:=λe n=>Ur e n;have Y:∀ {b:ay} {o:Obj} {g:Array mY} {l:Nat},s₁.heap.get? b=ae o->o.data= .dict g l->H b=none:=fun{b o g l} e d=>by
   cases q:H b with
   |none=>rfl
   |some u=>
    have Z:b=a:=E b (by rw[q];simp);subst Z;rw[S]at e;cases e;have d':mC vs.toArray _=Data.dict g l:=d
    cases d'
  have G:∀ {b:ay} {m:Str->Option ai},s₁.heap.Ns b m->(C0 s₁.heap H).Ns b m:=fun{b m} ⟨o,g,l,e,d,r⟩=>⟨o,g,l,i e (Y e d),d,r⟩;have Q:K.In (C0 s₁.heap H):=λb o e=>i (KX b o e) (by
   cases q:H b with
   |none=>rfl
   |some u=>
    have Z:b=a:=E b (by rw[q];simp);subst Z;rw[hK (by rw[q];simp)]at e;cases e)
  have hM:Mod K mg (C0 s₁.heap H):=⟨Q,G B,⟨N,G j,T⟩,let⟨mc,h1,h2⟩:=L;⟨mc,G h1,h2⟩⟩;have e0:tH P w K mg (C0 s₁.heap H) lG [] s₁ H:=⟨rfl,hM,λb o e=>WB e,gi (S3 _ _),trivial,λb j=>absurd (show b∈([]:List ay)from j) b',f, .of_eq hg⟩;refine dB ((F _ Q (G B)).a lG [] s₁ H ⟨[.ref a],[]⟩ [.ref a] [.b a] _ _ hr e0 (J s₁ (.ref a)) (.cons rfl .nil) (U H D hS)) λr y h=>?_
  cases r with
  |error e=>exact(X H e y h).elim
  |ok fl=>
   cases fl with
   |next=>exact bH h
   |brk=>exact bH h
   |cont=>exact bH h
   |ret u=>
    obtain⟨v,H',os,p,t,R,r',q⟩:=h;have q':v= .c true:=q;subst q';obtain rfl:u=eY true:=r';refine⟨rfl,OldK.of_keep λb o e=>?_,os,p⟩
    cases q:H b with
    |none=>exact t.i b o e q (by intro z;exact absurd (show b∈([]:List ay)from z) b') b'
    |some u=>
     rcases D b with z|⟨ob,xs,z⟩
     .rw[q]at z;cases z
     .have z2:=t.c b ob _ z;obtain⟨e1,_⟩:=f b _ z;obtain⟨e2,_⟩:=R b _ z2;rw[e]at e1;cases e1;exact e2
 cases hk:K.lookup a with
 |some o=>
  have e:=KX a o hk;rw[S]at e
  cases e
  refine c (λ_=>none) (λ_=> .inl rfl) (.inr ⟨_,vs.toArray,_,hk,rfl,rfl,rfl,by rw[aA,M];exact C,by simpa using A⟩) ⟨(λb u z=>by have I:(none:Option HO)=ae u:=z;cases I),(λu z=>nomatch (show(none:Option HO)=ae u from z)),let⟨o,_,_,e,_⟩:=B;⟨bq,o,by decide,e⟩⟩ (λb z=>absurd rfl z) λz=>absurd rfl z
 |none=>
  refine c (λb=>if b=a then ae (.e {cls:= .type "list",data:= .seq vs.toArray} (.a (ns.map V.a)))else none) (λb=>?_) (.inl (.inr ⟨{cls:= .type "list",data:= .seq vs.toArray},aU rfl⟩)) ⟨λb u z=>?_,(λu z=>by
   by_cases j:bL=a
   .have I:=(aU j).symm.trans z
    cases I;exact⟨_,_,rfl⟩
   .have I:=(aP j).symm.trans z
    cases I),let⟨o,_,_,e,_⟩:=B;⟨bq,o,by decide,e⟩⟩ (λb z=>?_) λ_=>hk
  .by_cases j:b=a
   .exact .inr ⟨_,_,aU j⟩
   .exact .inl (aP j)
  .by_cases j:b=a
   .have I:=(aU j).symm.trans z
    cases I
    subst j;exact⟨S,by rw[az];exact C,vs,_,A,S⟩
   .have I:=(aP j).symm.trans z
    cases I
  .by_cases j:b=a
   .exact j
   .exact absurd (aP j) z
def vH{l:W.OpenLaw}{k:Nat}{d:DefRec}
 (Q:l.most=ae n) (B:n<=sizeLine) (I:d.params.defaults=[]) (R:pM k lG)
 (S:∀ (w:dh) (h:dg),YP w h->(K w.params).In h)
 (F:∀ (w:dh) (mg:Str->Option ai) (c:ay) (h:dg),(K w.params).In h->h.Ns bq mg->mg d.name=ae (.ref c)->
   ∃fd:ke,(∀ (s:ak) (u:ai),lT s fd ⟨[u],[]⟩ [(x,u)])/\
    ∀base:dg,(K w.params).In base->base.Ns bq mg->pV l.prog w (K w.params) mg base (CX w) k c fd [x] (sp w))
 (J:∀ (w:dh) (H:Hp) (a:ay) (ns:hO),ns.length<=n->JO H->pq (K w.params) H a (ns.map V.a)->sp w [.b a] H (λv _=>v= .c aw) λ_ _ _=>False)
 (L:∀ (w:dh) (H:Hp) (s:ak) (e:ai) (M:ak),CX w [] H s (λ_ _ _=>False) e M->False):
 W.WalkO q loose XP YP l.row.toRowW d [] (λf vs=>oJ f vs):=by
 refine tD Q I λw m y mg D c o C O U a vs ns G Y E N X P z j i r=>?_;have p:=S w _ Y;obtain⟨fd,Z,A⟩:=F w mg c _ p G.T.g P;exact Uk p G.T.g G.T.b G.T.builtins G.T.nolimit r z j (bw i B) R A Z (λH t hS=>J w H a ns i t hS) λH e M=>L w H y e M
def inClass(s:kh)(j:Nat):kh:=match s with
 | .ClassDef _ _ _ a _ _ _ _ _ _ _=>a.getD j (.Pass ⟨0,0,0,0⟩)
 |_=> .Pass ⟨0,0,0,0⟩
def DF(s:kh):Arguments:=match s with
 | .FunctionDef _ a _ _ _ _ _ _ _ _=>a
 |_=>{posonlyargs:=[],args:=[],vararg:=none,kwonlyargs:=[],kw_defaults:=[],kwarg:=none,defaults:=[]}
def Bv(s:kh):List Stmt:=match s with
 | .FunctionDef _ _ b _ _ _ _ _ _ _=>b
 |_=>[]
def AX(s:kh):ib:=match s with
 | .FunctionDef _ _ _ _ _ _ b _ _ _=>b
 |_=>{kind:= .function,names:=[],isGenerator:=au,isCoroutine:=au}
abbrev tI:wc:=λ_ _ _ _ _ _=>False
abbrev E0:XK:=λ_ _ _=>False
def E6:DM tI X E0:=λ_ _ _ _ _ _ _ h=>h.elim
structure tZ (K:aB) (x qual:Str) (st:kh) (f:ay) (fd:ke):Prop where
 a:∃ (oc:ai) (od:Option ay) (kV doc pm:ai) (an:Option ay) (cdv ct:ai) (osl:Array (Option ai)),
  fd=W.fnOf x qual (DF st) (Bv st) (AX st) .none kV doc pm an cdv ct/\K.lookup f=ae ⟨oc,od, .func fd,osl⟩/\W.codeIn K cdv qual=aw
 b:W.keepIn K (.ref f)=aw
section
variable{K:aB}
def tZ.Z{N ps:hE}{k:Nat}{sp:Sp}(F:tZ K x qual st f fd)(S:pR N ps (AX st))(l:∀vs H Q E,sp vs H Q E->vs.length=ps.length)
 (d:∀ (b:ai) (A:fL) (outer:List Env) (s:ak) (H:Hp) (vs:gr) (Q:VK) (E:XK),pM k (A.deeper (iU qual (AX st) s.1.1.size f b))->sp vs H Q E->
   ∃t,rm (Cj tI P w K mg base N qual (AX st) f b A outer s H E).ux (Bv st) t/\t {nx:=λ_ j=>Q .d j,a:=Q} (start N vs) H):pV P w K mg base tI (k+1) f fd ps sp:=by
 obtain⟨I,J,a,y,L,M,b,c,z,rfl,B,e⟩:=F.a;refine Od B e S l λA outer s H vs Q E G i=>?_;obtain⟨t,h,q⟩:=d b A outer s H vs Q E G i;exact⟨t,h.J,q⟩
theorem tZ.J{ps:hE}(F:tZ K x qual st f fd)
 (h:∀ (a b e:ai) (i:Option ay) (d c:ai) (j:List ai),j.length=ps.length->bindArgs (W.fnOf x qual (DF st) (Bv st) (AX st) .none a b e i d c) ⟨j,[]⟩=pure (ps.zip j)):Binds K fd ps []:=by
 obtain⟨B,G,a,b,e,i,d,c,y,rfl,H,z⟩:=F.a;exact .J (h a b e i d c)
def N0{G:ai}{z y:Option ay}{u m s h v:ai}(l:K.lookup f=ae ⟨G,z, .func (W.fnOf x qual (DF st) (Bv st) (AX st) .none u m s y h v),osl⟩)
 (c:W.codeIn K h qual=aw) (k:W.keepIn K (.ref f)=aw):tZ K x qual st f (W.fnOf x qual (DF st) (Bv st) (AX st) .none u m s y h v):=⟨⟨G,z,u,m,s,y,h,v,osl,rfl,l,c⟩,k⟩
end
def B5(h:n<=1000):n<sizeLine:=dE h oY
def pv(i:Nat){pos:Pos}(d:X.N[i]? =ae x<|>n')(e:xa X.a.scope x<|>rn)(h:qq x<|>pu)
 (b:(x==("__classdict__":Str))=au<|>pu):PE X (.Name x pos) (Bx i):=Ng d e h b
section
variable{e f g:Expr}{te tf tg:TE}
def pe(b:PE X e te)(i:aI (e::[]) X.a=(au,eval e X.a)::aI [] X.a<|>n'):PA X [e] (CB te rj):=AA b AB i
def pk(b:PE X e te)(c:PE X f tf)(i:aI (e::[f]) X.a=(au,eval e X.a)::aI [f] X.a<|>n')(j:aI (f::[]) X.a=(au,eval f X.a)::aI [] X.a<|>n'):PA X [e,f] (CB te (CB tf rj)):=AA b (pe c j) i
def pF(b:PE X e te)(c:PE X f tf)(d:PE X g tg)(i:aI (e::[f,g]) X.a=(au,eval e X.a)::aI [f,g] X.a<|>n')(j:aI (f::[g]) X.a=(au,eval f X.a)::aI [g] X.a<|>n')(k:aI (g::[]) X.a=(au,eval g X.a)::aI [] X.a<|>n'):PA X [e,f,g] (CB te (CB tf (CB tg rj))):=AA b (pk c d j k) i
end
def hY(X:Cx)(x:Str)(i:Nat):Prop:=X.N[i]? =ae x/\xa X.a.scope x/\qq x/\(x==("__classdict__":Str))=au
def kz{x:Str}{pos:Pos}(i:Nat)(h:hY X x i):PE X (.Name x pos) (Bx i):=pv i h.1 h.2.1 h.2.2.1 h.2.2.2
def l'{x:Str}{pos:Pos}(h:hY X x 0<|>qg):PE X (.Name x pos) (Bx 0):=kz _ h
def ma{x:Str}{pos:Pos}(h:hY X x 1<|>qg):PE X (.Name x pos) (Bx 1):=kz _ h
def mm{x:Str}{pos:Pos}(h:hY X x 2<|>qg):PE X (.Name x pos) (Bx 2):=kz _ h
def nc{x:Str}{pos:Pos}(h:hY X x 3<|>qg):PE X (.Name x pos) (Bx 3):=kz _ h
def nt{x:Str}{pos:Pos}(h:hY X x 4<|>qg):PE X (.Name x pos) (Bx 4):=kz _ h
def nS{x:Str}{pos:Pos}(h:hY X x 5<|>qg):PE X (.Name x pos) (Bx 5):=kz _ h
def ov{x:Str}{pos:Pos}(h:hY X x 6<|>qg):PE X (.Name x pos) (Bx 6):=kz _ h
def oD{x:Str}{pos:Pos}(h:hY X x 7<|>qg):PE X (.Name x pos) (Bx 7):=kz _ h
def FG(h:B):if au=aw then A else B:=by
 rw[aP av];exact h
def CQ(h:A):if aw=aw then A else B:=by
 rw[aU rfl];exact h
def PQ{c:Prop}[Decidable c](b:c->A)(d:¬c->B):if c then A else B:=by
 by_cases h:c
 .rw[aU h];exact b h
 .rw[aP h];exact d h
def pj(H d:Hp):Prop:=∀b o,H b=ae o->d b=ae o
def pj.ap(H:Hp):pj H H:=λ_ _ h=>h
def pj.J{k:Hp}(a:pj H H1)(b:pj H1 k):pj H k:=λc o h=>b c o (a c o h)
def pj.Z(e:pj H H'){l:ay}(h:H' l=oz):H l=oz:=by
 cases q:H l with
 |none=>rfl
 |some o=>
  rw[e l o q]at h
  cases h
def pj.ld{K:aB}(e:pj H H')(h:pq K H a xs):pq K H' a xs:=by
 rcases h with(h|⟨o,h⟩)|h
 .exact .inl (.inl (e _ _ h))
 .exact .inl (.inr ⟨o,e _ _ h⟩)
 .exact .inr h
end
end Lake
set_option maxHeartbeats 8000000
namespace Lake
section
variable{D a b e:ay}{its:Array ai}{c:Bool}{R:Bool->Hp->Prop}{Y:Cx}{o:dH}{tn:dg->Prop}{i j:Int}{f:Int->Int->Int}{C:Int->Int->Prop}{g:Int->Int->V}{ys:gr}{Pv:Nat->gr->Hp->Prop}{hi lo:Option Int}{apos cpos p:Pos}{A B:Prop}{name:Str}{t ta:TA}{tb tl to:TE}{wi:TI}{x:V}{r:V->gr->Hp->VK->Prop}{Q:VK}{Qx:ai->Hp->V->Prop}
theorem ID:∀ (ns:List (Str×gY)) (b:List (Str×ay)),(∀y∈ns,y.2= .free->∃c,env.cells.lookup y.1=ae c)->(∀x c,b.lookup x=ae c->env.cells.lookup x=ae c)->
 ∃a,(forIn ns b fun(y:Str×gY) cs=>(if(y.2== .free)=aw then(do let c<-cellOf env y.1;pure (bG ((y.1,c)::cs)))else pure (bG cs):Sem (ForInStep (List (Str×ay)))))=pure a/\
  (∀x c,a.lookup x=ae c->env.cells.lookup x=ae c)/\(∀y∈ns,y.2= .free->∃c,a.lookup y.1=ae c)/\∀x c,b.lookup x=ae c->∃f,a.lookup x=ae f
 |[],b,_,B=>⟨b,rfl,B,(λ_ h=>nomatch h),λx c e=>⟨c,e⟩⟩
 |(n,k)::r,b,G,B=>by
  rw[eZ]
  by_cases hk:k= .free
  .subst hk;obtain⟨c,M⟩:=G (n, .free) aG rfl;have i:cellOf env n=pure c:=by unfold cellOf;rw[M]
   have H:∀x f,eL x ((n,c)::b)=ae f->env.cells.lookup x=ae f:=λx f e=>by
    rw[bh]at e
    cases j:x==n with
    |true=>rw[j]at e;simp at e;subst e;rw[eq_of_beq j];exact M
    |false=>rw[j]at e;exact B x f e
   obtain⟨a,I,J,L,z⟩:=ID r ((n,c)::b) (λy hy=>G y (aM _ hy)) H;refine⟨a,?_,J,λy hy d=>?_,λx f e=>?_⟩
   .simp only[f7,gG,i,pure_bind];exact I
   .rcases aL.mp hy with rfl|hy
    .exact z n c (by simp[bh])
    .exact L y hy d
   .cases j:x==n with
    |true=>rw[eq_of_beq j];exact z n c (by simp[bh])
    |false=>exact z x f (by rw[bh,j];exact e)
  .have P:(k==db)=au:=by simpa using hk
   obtain⟨a,I,J,L,z⟩:=ID r b (λy hy=>G y (aM _ hy)) B;refine⟨a,?_,J,λy hy d=>?_,z⟩
   .simp only[P,eJ,gX,pure_bind];exact I
   .rcases aL.mp hy with rfl|hy
    .exact absurd d hk
    .exact L y hy d
def NH(h:∀y∈scope.names,y.2= .free->∃c,env.cells.lookup y.1=ae c):
 ∃a,closureFor scope env=pure a/\(∀x c,a.lookup x=ae c->env.cells.lookup x=ae c)/\∀y∈scope.names,y.2= .free->∃c,a.lookup y.1=ae c:=by
 obtain⟨a,b,d,i,_⟩:=ID (env:=env) scope.names [] h (λx c e=>nomatch e);refine⟨a,?_,d,i⟩;have e:closureFor scope env=(forIn scope.names ([]:List (Str×ay)) fun(y:Str×gY) cs=>(if(y.2== .free)=aw then(do let c<-cellOf env y.1;pure (bG ((y.1,c)::cs)))else pure (bG cs):Sem (ForInStep (List (Str×ay)))))>>=pure:=by
  rfl
 rw[e,b,pure_bind]
def Br(X:Cx)(own:hE)(sel:gk)(scope:ib)(k:List (Str×ay))(C:ay)(b:ak)(d:Hp)(h:List ay):Cx where
 d:=X.d
 w:=X.w
 K:=X.K
 h:=X.h
 f:=X.f
 A:=X.A
 N:=own++sel.map λj=>X.N.getD j cR
 j:=b
 l:=d
 a:=kX scope k C X.a
 g:=X.e
 e:=X.e
 k:=h
 i:=λ_=>au
 calm:=X.calm
 pn:=[]
 xe:=λ_ _=>False
def AZ(own:hE)(sel:gk)(O:pz):pz:=own.map (λ_=>none)++sel.map λj=>O.getD j none
structure ua (osc:ib) (N:hE) (own:hE) (sel:gk) (scope:ib):Prop where
 a:scope.kind= .function
 b:∀y∈scope.names,y.2≠ .cell
 c:∀y∈scope.names,y.2= .local->scope.names.lookup y.1=ae .local
 d:∀y∈scope.names,y.2= .free->osc.names.lookup y.1=ae .cell\/osc.names.lookup y.1=ae .free
 e:∀j∈sel,j<N.length/\scope.names.lookup (N.getD j cR)=ae .free/\(osc.names.lookup (N.getD j cR)=ae .cell\/osc.names.lookup (N.getD j cR)=ae .free)
def vB(Y:Cx)(ifs:List dH)(t:TT):Prop:=
 ∀ (pb:List (ay×Obj)) (s:ak) (a:pz) (H:Hp) (Q:Bool->Hp->Prop),Inv Y pb a H s->t a H Q->
   aO (aV Y.d Y.w) Y.A (forIn ifs aw λc r=>if r=aw then do let b<-kT c Y.a (eval c Y.a);pure (bG b)else pure (bG r)) (TP Y pb a Q) Y.xe s
def qe:TT:=λ_ H Q=>Q aw H
def BC:vB Y [] qe:=λb s a H Q I h=>wpAny_tests_nil ⟨H,I,h⟩
def Fl{c:dH}{t:TT}(h:PT Y c t):vB Y [c] t:=λd s a H Q I b=>wpAny_tests_one (h d s a H Q I b)
def GK(n:Nat)(g:TG):Prop:=∀v O H Q,g v O H Q->g v O H λσ' b=>Q σ' b/\σ'.length=O.length/\∀i,n<=i->σ'[i]? =O[i]?
def yi(n:Nat)(g:tF):Prop:=∀vs O H Q,g vs O H Q->g vs O H λσ' b=>Q σ' b/\σ'.length=O.length/\∀i,n<=i->σ'[i]? =O[i]?
def Av{i:Nat}(h:i<n):GK n (BK i):=λv a H Q q=>⟨q,by simp,λj b=>by rw[cm oZ]⟩
def F9:yi n v8:=λb a H Q q=>⟨q.1,q.2,rfl,λ_ _=>rfl⟩
def GM(g:TG):Prop:=∀v c H Q b,(∀a d,Q a d->b a d)->g v c H Q->g v c H b
def yh(g:tF):Prop:=∀vs c H Q b,(∀a d,Q a d->b a d)->g vs c H Q->g vs c H b
def B9{i:Nat}:GM (BK i):=λ_ _ _ _ _ h q=>h _ _ q
def DL:yh v8:=λ_ _ _ _ _ h q=>⟨q.1,h _ _ q.2⟩
def Fq{t:TG}{u:tF}(b:GM t)(d:yh u):yh (GN t u):=λf c H Q i h ⟨v,r,e,q⟩=>⟨v,r,e,b _ _ _ _ _ (λa j z=>d _ _ _ _ _ h z) q⟩
def DE{t:TG}{u:tF}(s:GM t)(m:yh u)(d:GK n t)(j:yi n u):yi n (GN t u):=λp o H Q ⟨v,r,e,q⟩=>by
 refine⟨v,r,e,s _ _ _ _ _ (λh y z=>?_) (d _ _ _ _ q)⟩;obtain⟨x,l,k⟩:=z;exact m _ _ _ _ _ (λg B ⟨a,b,c⟩=>⟨a,b.trans l,λi f=>(c i f).trans (k i f)⟩) (j _ _ _ _ x)
def F8{m:Nat}{t:tF}(h:yi n t):GK n (FI K m t):=λv c H Q ⟨a,b,d,e,i,q⟩=>⟨a,b,d,e,i,h _ _ _ _ q⟩
def GE(own:hE)(sel:gk)(I:TI)(g:TG)(L:TT)(M:TE):TE:=λc H Q=>I c H λJ y=>∀D,y D=none->
 ∃W:Nat->Nat->Hp->Prop,(∃m,W 0 m (upd y D (.a [])))/\∀i m d,W i m d->
  (J.a i d/\Q (.b D) d)\/(J.d i d/\∀x z,J.c i d x z->g x (AZ own sel c) z λa P=>L a P λb B=>
    if b=aw then M a B λv G=>∃j,G D=ae (.a j)/\j.length<sizeLine/\∃e,e<m/\W (i+1) e (upd G D (.a (j++[v])))
    else∃e,e<m/\W (i+1) e B)
section
variable{A:fL}{R:nZ->ak->Prop}{s:ak}
theorem Ru{l k iter:dH}{pos:Pos}{N q:ai}(I:Nat->ak->Prop)
 (u:∀n s,I n s->aO (aV prog w) A (fA N) (λr b=>match r with
   |none=>R (.ok .next) b
   |some v=>aO (aV prog w) A (c8 k N v) (λ_ e=>aO (aV prog w) A (iB k env v) (λ_ i=>
     aO (aV prog w) A (forIn ifs aw λc r=>if r=aw then do let a<-kT c env (eval c env);pure (bG a)else pure (bG r)) (λa d=>
      if a=aw then aO (aV prog w) A (eval l env) (λx j=>aO (aV prog w) A (call (.builtin "list.append") [q,x]) (λ_ y=>∃m,m<n/\I m y) (λ_ _=>False) j) (λ_ _=>False) d
      else∃m,m<n/\I m d) (λ_ _=>False) i) (λ_ _=>False) e) (λ_ _=>False) b) (λ_ _=>False) s)
 (n:Nat) (h:I n s):
 dM (aV prog w) A (.compLoop (.ListComp l [⟨k,iter,ifs,0⟩] scope pos) 0 N q env) R s:=by
 refine lV rfl I (λn s H=>?_) n h;show aO _ A ((mz (.ListComp l [⟨k,iter,ifs,0⟩] scope pos) 0 N q env).onRaise (λx=>do mJ x env;jH x)) _ _ s;refine mD ?_;rw[compTurn_list];refine ac (dF (ac (bi (u n s H) (λr b B=>?_) λ_ _ z=>z.elim)))
 cases r with
 |none=>exact ah B
 |some v=>
  refine ac (bi B (λ_ e f=>ac (bi f (λ_ i J=>ac (bi J (λa d G=>?_) λ_ _ z=>z.elim)) λ_ _ z=>z.elim)) λ_ _ z=>z.elim)
  cases a with
  |false=>exact ah ⟨rfl,G⟩
  |true=>
   exact ac (ac (bi G (λx j L=>ac (bi L (λ_ y M=>ah (ah ⟨rfl,M⟩)) λ_ _ z=>z.elim)) λ_ _ z=>z.elim))
end
theorem EJ{env:Env}:∀ {a:List (Str×gY)} {x:Str} {k:gY},
 (a.map fun(n,k)=>if(k==db&&env.scope.kind== .function&&env.kindOf n==ae .cell)then(n,bz)else(n,k)).lookup x=ae k->
 a.lookup x=ae k\/a.lookup x=ae .free
 |[],_,_,h=>by simp at h
 |(n,e)::r,x,k,h=>by
  have j:= @EJ env r x k;have b:eL x ((if(e==db&&env.scope.kind== .function&&env.kindOf n==ae .cell)=aw then(n,bz)else(n,e))::r.map fun(n,k)=>if(k==db&&env.scope.kind== .function&&env.kindOf n==ae .cell)then(n,bz)else(n,k))=ae k:=h
  cases i:x==n with
  |true=>
   rw[bh,i]
   by_cases d:(e==db&&env.scope.kind== .function&&env.kindOf n==ae .cell)=aw
   .have:e= .free:=by simp only[aW,bP]at d;exact d.1.1
    subst this;exact .inr rfl
   .rw[aP d,bh,i]at b;exact .inl b
  |false=>
   rw[bh,i]
   by_cases d:(e==db&&env.scope.kind== .function&&env.kindOf n==ae .cell)=aw
   .rw[aU d,bh,i]at b;exact j b
   .rw[aP d,bh,i]at b;exact j b
theorem Gd{env:Env}(l:env.scope.kind= .function):∀ {a:List (Str×gY)} {x:Str},a.lookup x=ae .free->
 (a.map fun(n,k)=>if(k==db&&env.scope.kind== .function&&env.kindOf n==ae .cell)then(n,bz)else(n,k)).lookup x=ae .cell\/
 (a.map fun(n,k)=>if(k==db&&env.scope.kind== .function&&env.kindOf n==ae .cell)then(n,bz)else(n,k)).lookup x=ae .free
 |[],_,h=>by simp at h
 |(n,b)::r,x,h=>by
  have i:= @Gd env l r x;show eL x ((if(b==db&&env.scope.kind== .function&&env.kindOf n==ae .cell)=aw then(n,bz)else(n,b))::_)=_\/eL x ((if(b==db&&env.scope.kind== .function&&env.kindOf n==ae .cell)=aw then(n,bz)else(n,b))::_)=_
  cases d:x==n with
  |true=>
   rw[bh,d]at h
   by_cases e:(b==db&&env.scope.kind== .function&&env.kindOf n==ae .cell)=aw
   .rw[aU e,bh,d];exact .inl rfl
   .rw[aP e,bh,d];exact .inr h
  |false=>
   rw[bh,d]at h
   by_cases e:(b==db&&env.scope.kind== .function&&env.kindOf n==ae .cell)=aw
   .rw[aU e,bh,d];exact i h
   .rw[aP e,bh,d];exact i h
def Fd{O:pz}{i:Nat}(h:i<own.length):(AZ own sel O)[i]? =ae none:=by
 unfold AZ;rw[dA (by simpa using h),ao,al h]
 rfl
def Lq{O:pz}{i:Nat}{v:V}(h:(AZ own sel O)[i]? =ae (ae v)):∃k j,i=own.length+k/\sel[k]? =ae j/\O[j]? =ae (ae v):=by
 by_cases a:i<own.length
 .rw[Fd a]at h;cases h
 .unfold AZ at h;rw[cN (by simpa using a),ao]at h;rw[az]at h
  cases e:sel[i-own.length]? with
  |none=>rw[e]at h;cases h
  |some j=>
   rw[e]at h;simp only[jQ,fO]at h;refine⟨i-own.length,j,by lia,e,?_⟩;rw[ag]at h
   cases q:O[j]? with
   |none=>rw[q]at h;cases h
   |some u=>rw[q]at h;simp at h;rw[h]
def Lr{O:pz}:(AZ own sel O).length=own.length+sel.length:=by
 unfold AZ;simp
structure yP (X:Cx) (pb:List (ay×Obj)) (H:Hp) (C:ay):Prop where
 e:H C=none
 a:C≠X.a.locals
 f:X.j.heap.objs.size<=C
 b:∀x c,X.a.cells.lookup x=ae c->c≠C
 d:∀p∈X.pn++pb,p.1≠C
def Inv.yG{O:pz}{s:ak}{C:ay}(I:Inv X pb O H s)(f:yP X pb H C)(k:bC C s.heap h'):Inv X pb O H {s with heap:=h'}:=
 I.turned (t':=s.toks) (λb o d e=>(k.2 b d).trans e) f.e f.a (.inr f.f) f.b f.d
section
variable{O:pz}{s:ak}
def Inv.tu(I:Inv X pb O H s)(d:∀b∈ch,BZ X pb H b)(k:∀b u,b∉ch->s.heap.get? b=ae u->h'.get? b=ae u):∃b o,1<b/\h'.get? b=ae o:=by
 obtain⟨o,_,_,e,_⟩:=I.e.f.a;refine⟨bq,o,by decide,k _ _ (λz=>?_) (I.bk _ _ e)⟩;rcases(d _ z).2.2.2.1 with q|q
 .exact I.e.i _ _ e q
 .exact absurd (aQ (ax e) (bw I.e.h q)) (ck _)
def Inv.rA{o:HO}(I:Inv X pb O H s)(i:∀b∈ch,BZ X pb H b)(k:∀b u,b∉ch->s.heap.get? b=ae u->h'.get? b=ae u)(y:s.1.1.size<=a)
 (h:pE X.d X.w (upd H a o) h' a o):Inv X pb O (upd H a o) {s with heap:=h',toks:=t'}:=by
 have x:H a=none:=I.a.J y;have p:∀b u,s.heap.get? b=ae u->b≠a:=λb u e=>aT (aQ (ax e) y);have g:∀b u,H b=ae u->b∉ch:=λb u e z=>by rw[(i b z).1]at e;cases e
 refine I.step (g':=s.gens) (d':=s.drawn) (ch:=ch) (λb d=>⟨(i b d).2.2.2.1,(i b d).2.1,(i b d).2.2.2.2.1,(i b d).2.2.2.2.2⟩) (λb u _ _ j e _=>k b u j e) (λb u _ _ j e _=>⟨u.slots,k b u j e⟩)
  (λb u _ e n=>by rw[AG (p b u e)];exact n) (λb u j e=>⟨u,k b u j e⟩) (λb B e=>by rw[AG (AQ e x)];exact e) (λb u B e=>by rw[AG (AQ e x)];exact e)
  (λb t e=>⟨#[],by rw[AG (AQ e x),e];simp⟩) (λm G=>?_) ⟨λb u e=>?_,λu e=>I.a.c u (by
    by_cases d:bL=a
    .obtain⟨b,P,l,q⟩:=I.a.d;exact absurd (eG l (show b<bL from by rw[d];exact aQ (ax q) y)) (ck 1)
    .rw[AG d]at e;exact e),I.tu i k⟩ I.d
 .obtain⟨f,J,L,M,r⟩:=G;exact⟨f,J,L,k _ f (λz=>(i _ z).2.1 rfl) M,r⟩
 .by_cases d:b=a
  .subst d;rw[AF]at e;cases e;exact h
  .rw[AG d]at e;refine(I.a b u e).J (λc v j q=>k c v ?_ q) (λc q=>by rw[AG (AQ q x)];exact q) λc B q=>by rw[AG (AQ q x)];exact q
   rcases j with z|z
   .rw[z];exact g b u e
   .exact g c _ z
def Inv.pP(I:Inv X pb O H s)(d:∀b∈ch,BZ X pb H b)(k:∀b u,b∉ch->s.heap.get? b=ae u->h'.get? b=ae u):Inv X pb O H {s with heap:=h',toks:=t'}:=by
 have f:∀b u,H b=ae u->b∉ch:=λb u e z=>by rw[(d b z).1]at e;cases e
 refine I.step (g':=s.gens) (d':=s.drawn) (ch:=ch) (λb j=>⟨(d b j).2.2.2.1,(d b j).2.1,(d b j).2.2.2.2.1,(d b j).2.2.2.2.2⟩) (λb u _ _ i e _=>k b u i e) (λb u _ _ i e _=>⟨u.slots,k b u i e⟩)
  (λb u _ e n=>n) (λb u i e=>⟨u,k b u i e⟩) (λb x e=>e) (λb u x e=>e) (λb g e=>⟨#[],by rw[e];simp⟩) (λm y=>?_) ⟨λb u e=>?_,I.a.c,I.tu d k⟩ I.d
 .obtain⟨a,B,G,J,r⟩:=y;exact⟨a,B,G,k _ a (λz=>(d _ z).2.1 rfl) J,r⟩
 .refine(I.a b u e).J (λc v i q=>k c v ?_ q) (λc q=>q) λc x q=>q;rcases i with z|z
  .rw[z];exact f b u e
  .exact f c _ z
end
def tL(x:Str):qo:=⟨λi _=>i<x.cps.size,λi H v b=>b=H/\∃c,x.cps[i]? =ae c/\v= .e ⟨#[c]⟩,λi _=>i=x.cps.size⟩
def LI{x:Str}{t:Tok}{T:String}{l:ay}(N:T="str_ascii_iterator"\/T="str_iterator")
 (W:∀A:fL,A.handled=none->Walks P w A l [l] [l] x.cps.size (SignAt x) (λi h=>h.IsStrIter l T x t i))
 (q:∀ (A:fL) (i:Nat) (s:ak) (Q:ai->ak->Prop) (E:ai->ak->Prop),s.heap.IsStrIter l T x t i->Q (.ref l) s->aO (aV P w) A (jl (.ref l)) Q E s):
 Turn P w K tg (tL x) [l] l (λi h=>h.IsStrIter l T x t i) where
 g:=by simp
 e:=λi h d b J=>by
  obtain⟨o,j,_,f⟩:=d;have e:b=l:=by simpa using J
  subst e;exact⟨o,j,λv z=>by rw[f]at z;cases z⟩
 a:=λi h B d k=>by
  obtain⟨o,j,r⟩:=d;exact⟨o,k l b' o j,r⟩
 c:=by
  intro X L M R S i m s g H E I G d a;subst L M R;refine(W X.A (I.e.k S)).item i s _ _ a d λv B U C y Y=>?_;obtain⟨c,u,p,rfl⟩:=C;obtain⟨o,j,Z,f⟩:=id y;have D:Inv X m g H {s with heap:=B,toks:=U}:=I.pP G Y;refine⟨_,rfl,EA (s:={s with heap:=B,toks:=U}) (n:=T) j Z f (by rcases N with rfl|rfl<;>decide) ⟨.e ⟨#[c]⟩,H,D,⟨u,rfl⟩,⟨rfl,c,p,rfl⟩,y,λb J=>(G b J).1⟩⟩
 d:=by
  intro X L M R S i m s g H E I G d a;subst L M R;have e:i=x.cps.size:=a;subst e;exact(W X.A (I.e.k S)).done s _ _ d λB U Y=>⟨rfl,I.pP G Y⟩
 f:=λA i s Q E d h=>q A i s Q E d h
def PU(b:TE):TI:=λa H R=>b a H λx d=>∃z,x= .e z/\R (tL z) d
def Cb{l:dH}(M:PE X l tl):PI X tg l (PU tl):=by
 intro a s c H R I h;refine pB (M a s c H _ I h) λv d P=>?_;obtain⟨x,B,y,S,U⟩:=P;obtain⟨z,rfl,q⟩:=U;obtain⟨t,rfl⟩:=S;have j:∀b∈[d.1.1.size],BZ X a B b:=λb Y=>by
  have e:b=d.1.1.size:=by simpa using Y
  subst e;exact y.sJ (am _) (y.a.J (am _))
 cases L:z.cps.all (· <128)
 .refine wpAny_pyIter_wide L ⟨d.1.1.size,[d.1.1.size],_,_,B,rfl,y.ap (t':=d.toks) λb o e=>af _ e,LI (t:=t) (T:="str_iterator") (.inr rfl) (λA G=>Walks.strWide G _ z t) (λA i s Q E J h=>wpAny_pyIter_striter_wide J h),⟨_,aq _ rfl,rfl,rfl⟩,j,q⟩
 .refine wpAny_pyIter_ascii L ⟨d.1.1.size,[d.1.1.size],_,_,B,rfl,y.ap (t':=d.toks) λb o e=>af _ e,LI (t:=t) (T:="str_ascii_iterator") (.inl rfl) (λA G=>Walks.strAscii G _ z t) (λA i s Q E J h=>wpAny_pyIter_striter_ascii J h),⟨_,aq _ rfl,rfl,rfl⟩,j,q⟩
def EI(x:Str):qo:=⟨λi _=>i<x.cps.size,λi H v b=>∃T c,H T=none/\x.cps[i]? =ae c/\v= .b T/\b=upd H T (.b [.a i, .e ⟨#[c]⟩]),λi _=>i=x.cps.size⟩
def JP(K:aB)(a:ay):qo:=⟨λi H=>∃b x,pq K H a b/\b[i]? =ae x,λi H v d=>∃T x,H T=none/\(∀b,pq K H a b->b[i]? =ae x)/\v= .b T/\d=upd H T (.b [.a i,x]),
 λi H=>∃b,pq K H a b/\i=b.length⟩
section
variable{k:Nat}
def K1{O:pz}{s:ak}{h:ay}{V:List ay}{i:Nat}{m:Nat->ai->Prop}{pz:Nat->dg->Prop}{l:ai}
 (D:j5 X.d X.w X.A.in1 h V n m pz) (I:Inv X pb O H s) (N:∀b∈[e,h],BZ X pb H b) (σ:n9 s.heap e h i l) (j:pz i s.heap) (M:i<n) (Q:e≠h) (B:e∉V)
 (R:∀S o,n9 S e h ((i:Int)+1) o->pz (i+1) S->tn S) (y:∀v,m i v->∃z,RelV z v/\Qx v H z):
 aO (aV X.d X.w) X.A (fA (.ref e)) (λr p=>∃u,r=ae u/\aO (aV X.d X.w) X.A (c8 (.Tuple elts k tpos) (.ref e) u) (λ_ s2=>∃x U,Inv X pb O U s2/\RelV x u/\
  (∃T z v,H T=none/\m i v/\RelV z v/\Qx v H z/\x= .b T/\U=upd H T (.b [.a i,z]))/\tn s2.heap/\∀b∈[e,h],U b=none) E p) E s:=by
 refine wpAny_pyNext_enum_itemD D σ j M Q B λv h1 J hP P Y hT K hk=>⟨_,rfl,wpAny_letOwnedTupleGo_enum P λL Z d=>?_⟩;obtain⟨z,g,t⟩:=y v hP;have G:e<s.1.1.size:=ax σ;have a:h<s.1.1.size:=by obtain⟨_,q⟩:=D.live _ _ j;exact ax q
 have f:L.get? s.1.1.size=ae {cls:= .type "tuple",data:= .seq #[.int i J,v]}:=(d.2 _ (eF G)).trans hT;have C:pE X.d X.w (upd H s.1.1.size (.b [.a i,z])) L s.1.1.size (.b [.a i,z]):=⟨(by show 2<=sizeLine;decide),[.int i J,v], .cons ⟨J,rfl⟩ (.cons g .nil),⟨_,f,rfl,_,rfl⟩⟩;have I2:Inv X pb O (upd H s.1.1.size (.b [.a i,z])) {s with heap:=L,toks:=J+1}:=I.rA N (λb u hb q=>(d.2 b (λz=>hb (by simp[z]))).trans (hk b u (λz=>hb (by simp[z])) (λz=>hb (by simp[z])) q)) (am _) C;refine⟨.b s.1.1.size,_,I2,rfl,⟨s.1.1.size,z,v,I.a.J (am _),hP,g,t,rfl,rfl⟩,R L _ Z (D.frame _ _ _ Y λb hb o q=>(d.2 b λz=>B (z▸hb)).trans q),λb hb=>?_⟩;have c:b≠s.1.1.size:=by
  rcases aL.mp hb with z|hb
  .rw[z];exact aT G
  .rw[aS.mp hb];exact aT a
 rw[AG c];exact(N b hb).1
def Jz{x:Str}{t:Tok}{T:String}{l:ay}(y:e≠l)
 (W:∀A:fL,A.handled=none->j5 P w A l [l] x.cps.size (λi v=>∃c u,x.cps[i]? =ae c/\v= .str ⟨#[c]⟩ u) (λi h=>h.IsStrIter l T x t i)):
 Turn P w K (.Tuple elts k tpos) (EI x) [e,l] e (λi h=>(∃f,n9 h e l i f)/\h.IsStrIter l T x t i) where
 g:=by simp
 e:=λi h d b hb=>by
  obtain⟨⟨f,j⟩,o,G,_,D⟩:=d;rcases aL.mp hb with z|hb
  .subst z;exact⟨_,j,λv z=>by cases z⟩
  .rw[aS.mp hb];exact⟨o,G,λv z=>by rw[D]at z;cases z⟩
 a:=λi h Y d k=>by
  obtain⟨⟨f,j⟩,o,G,r⟩:=d;exact⟨⟨f,k e b' _ j⟩,o,k l b' o G,r⟩
 c:=by
  intro X J L M R i C s m H E I S d g;subst J L M;obtain⟨⟨f,j⟩,d⟩:=d;refine pB (K1 (elts:=elts) (k:=k) (tpos:=tpos) (Qx:=λv H z=>∃c,x.cps[i]? =ae c/\z= .e ⟨#[c]⟩) (tn:=λh=>(∃f,n9 h e l ((i+1:Nat):Int) f)/\h.IsStrIter l T x t (i+1)) (W X.A.in1 (I.e.k R)) I S j d g y (λz=>y (aS.mp z)) (λY o a b=>⟨⟨o,by simpa using a⟩,b⟩) ?_) ?_
  .rintro v ⟨c,u,B,rfl⟩;exact⟨.e ⟨#[c]⟩,⟨u,rfl⟩,c,B,rfl⟩
  .rintro r s1 ⟨u,Z,O⟩;refine⟨u,Z,pB O ?_⟩;rintro _ s2 ⟨n,H',I2,p,⟨Ta,z,v,N,hv,rz,⟨c,B,rfl⟩,ex,eH⟩,U,V⟩;exact⟨n,H',I2,p,⟨Ta,c,N,B,ex,eH⟩,U,V⟩
 d:=by
  intro X J L M R i C s m H E I S d g;subst J L M;obtain⟨⟨f,j⟩,d⟩:=d;have ei:i=x.cps.size:=g;subst ei;exact ju (W X.A.in1 (I.e.k R)) j d λY B=>⟨rfl,I.pP (t':=s.toks) S λb o hb q=>B b o (λz=>hb (by simp[z])) q⟩
 f:=λA i s Q E d h=>by
  obtain⟨⟨f,j⟩,_⟩:=d;exact gP j h
def RM{l:ay}(B:e≠l)(G:a≠l)(R:a≠e):
 Turn P w K (.Tuple elts k tpos) (JP K a) [e,l] e (λi h=>(∃c,n9 h e l i c)/\h.IsListIter l a i) where
 g:=by simp
 e:=λi h j b hb=>by
  obtain⟨⟨c,y⟩,o,S,_,hd⟩:=j;rcases aL.mp hb with z|hb
  .subst z;exact⟨_,y,λv z=>by cases z⟩
  .rw[aS.mp hb];exact⟨o,S,λv z=>by rw[hd]at z;cases z⟩
 a:=λi h N j k=>by
  obtain⟨⟨c,y⟩,o,S,r⟩:=j;exact⟨⟨c,k e b' _ y⟩,o,k l b' o S,r⟩
 c:=by
  intro X T U Y Z i pb s O H E I t j p;subst T U Y;obtain⟨⟨c,y⟩,j⟩:=j;obtain⟨xs,x,M,J⟩:=p;obtain⟨d,rv,pl,hz⟩:=I.J M;have m:=rv.J;have n:i<xs.length:=(aR.mp J).1;have D:j5 X.d X.w X.A.in1 l [l,a] d.toArray.size (λi v=>d.toArray[i]? =ae v) (λi h=>h.IsListIter l a i/\h.IsList a d.toArray):=nv (A:=X.A.in1) (I.e.k Z) l a G d.toArray;refine pB (K1 (elts:=elts) (k:=k) (tpos:=tpos) (Qx:=λv H z=>z=x) (tn:=λh=>(∃c,n9 h e l ((i+1:Nat):Int) c)/\h.IsListIter l a (i+1)) D I t y ⟨j,pl.isList⟩ (by rw[aA,<-m];exact n) B (λz=>?_) (λN o a b=>⟨⟨o,by simpa using a⟩,b.1⟩) ?_) ?_
  .rcases aL.mp z with z|z
   .exact B z
   .exact R (aS.mp z).symm
  .intro v C;obtain⟨u,eu,ru⟩:=rv.ld J;have:v=u:=by
    have L:d[i]? =ae v:=by simpa using C
    rw[eu]at L;exact(bv L).symm
   subst this;exact⟨x,ru,rfl⟩
  .rintro r s1 ⟨u,hr,h1⟩;refine⟨u,hr,pB h1 ?_⟩;rintro _ s2 ⟨V,H',I2,rx,⟨Ta,z,v,hT,C,rz,rfl,ex,eH⟩,f,fr⟩;refine⟨V,H',I2,rx,⟨Ta,z,hT,λys g=>?_,ex,eH⟩,f,fr⟩;rw[I.rG g M];exact J
 d:=by
  intro X T U Y Z i pb s O H E I t j p;subst T U Y;obtain⟨⟨c,y⟩,j⟩:=j;obtain⟨xs,M,ei⟩:=p;obtain⟨d,rv,pl,hz⟩:=I.J M;have m:=rv.J;have D:j5 X.d X.w X.A.in1 l [l,a] d.toArray.size (λi v=>d.toArray[i]? =ae v) (λi h=>h.IsListIter l a i/\h.IsList a d.toArray):=nv (A:=X.A.in1) (I.e.k Z) l a G d.toArray;have es:i=d.toArray.size:=by rw[aA,<-m];exact ei
  exact ju D y ⟨es▸j,pl.isList⟩ λN J=>⟨rfl,I.pP (t':=s.toks) t λb o hb q=>J b o (λz=>hb (by simp[z])) q⟩
 f:=λA i s Q E j h=>by
  obtain⟨⟨c,y⟩,_⟩:=j;exact gP y h
end
def PX(b:TA):TI:=λa H R=>b a H λvs d=>∃z,vs=[.e z]/\R (EI z) d
def JL(K:aB)(d:TA):TI:=λc H R=>d c H λvs b=>∃a,vs=[.b a]/\(∃e,pq K b a e)/\R (JP K a) b
section
variable{a:dH}{pos:Pos}{k:Nat}
def IY{O:pz}{s:ak}(I:Inv X pb O H s):∀b∈[s.1.1.size+1,s.1.1.size],BZ X pb H b:=λb hb=>by
 rcases aL.mp hb with z|hb
 .subst z;exact I.sJ (f' _) (I.a.J (f' _))
 .rw[aS.mp hb];exact I.sJ (am _) (I.a.J (am _))
def US(l:Gl X "enumerate")(L:X.h "enumerate"=none)(M:PA X [a] ta)(P:aI [a] X.a=[(au,eval a X.a)]<|>n'):PI X (.Tuple elts k tpos) (.Call (.Name "enumerate" p) [a] [] pos) (PX ta):=by
 intro g s c H R I h;refine Call_ (CL I l L boot_enumerate (bN (zQ (M pos g s c H _ I h) λY d m G x Q S=>?_) P rfl));obtain⟨z,e,q⟩:=S;subst e
 cases Q with
 |cons r f=>
  cases f
  obtain⟨t,rfl⟩:=r;refine call_enumerate_str λJ y j U hk=>gP y ?_
  cases i:z.cps.all (· <128)
  .have b:J.IsStrIter d.1.1.size "str_iterator" z t 0:=by simpa[f8,i]using j
   exact⟨d.1.1.size+1,[d.1.1.size+1,d.1.1.size],_,_,G,rfl,x.ap (t':=d.toks) hk,Jz (t:=t) (T:="str_iterator") (jo _) (λA B=>nJ B _ z t),⟨⟨_,y⟩,b⟩,IY x,q⟩
  .have b:J.IsStrIter d.1.1.size "str_ascii_iterator" z t 0:=by simpa[f8,i]using j
   exact⟨d.1.1.size+1,[d.1.1.size+1,d.1.1.size],_,_,G,rfl,x.ap (t':=d.toks) hk,Jz (t:=t) (T:="str_ascii_iterator") (jo _) (λA B=>m7 B _ z t),⟨⟨_,y⟩,b⟩,IY x,q⟩
def UT(m:Gl X "enumerate")(B:X.h "enumerate"=none)(G:PA X [a] ta)(J:aI [a] X.a=[(au,eval a X.a)]<|>n'):PI X (.Tuple elts k tpos) (.Call (.Name "enumerate" p) [a] [] pos) (JL X.K ta):=by
 intro g s c H R I h;refine Call_ (CL I m B boot_enumerate (bN (zQ (G pos g s c H _ I h) λU b n L d M P=>?_) J rfl));obtain⟨l,e,⟨Y,Q⟩,q⟩:=P;subst e
 cases M with
 |cons r f=>
  cases f
  cases r
  obtain⟨S,o,x,Z⟩:=d.J Q;obtain⟨t,i,_⟩:=id x.isList;have y:l<b.1.1.size:=ax i;refine call_enumerate_list x.isList λu z j T hk=>gP z ?_;exact⟨b.1.1.size+1,[b.1.1.size+1,b.1.1.size],_,_,L,rfl,d.ap (t':=b.toks) hk,RM (jo _) (aT y) (aT (cq y)),⟨⟨_,z⟩,j⟩,IY d,q⟩
end
def tx(l:gk):V:= .e ⟨l.toArray⟩
def uX{a b:gk}:tx a=tx b↔a=b:=by
 unfold tx
 constructor
 .intro h;injection h with h
  injection h with h
  simpa using cx hJ h
 .rintro rfl;rfl
def BG(a:gk):(⟨a.toArray⟩:Str).length=a.length:=by simp[Str.length]
def GB(a b:gk):rM (tx a) (tx b)=decide (a=b):=by
 have e:rM (tx a) (tx b)=((⟨a.toArray⟩:Str)==⟨b.toArray⟩):=rfl;rw[e]
 by_cases h:a=b
 .subst h;simp
 .rw[ba h,beq_eq_false_iff_ne];intro q;exact h (uX.mp (cx V.e q))
def N7(a b:gk):decide (tx a=tx b)=decide (a=b):=by
 by_cases h:a=b
 .subst h;simp
 .rw[ba h,ba (λq=>h (uX.mp q))]
def OU{x:Str}{l:gk}{j pos}(h:x=⟨l.toArray⟩):PE X (.Constant (.str x) j pos) (tC (tx l)):=by
 subst h;exact DI
def vY:pZ X (eN .Add) (λx y H Q=>∃a b,x=tx a/\y=tx b/\a.length+b.length<=sizeLine/\Q (tx (a++b)) H):=by
 rintro f s c H x y v u Q I d i ⟨a,b,j,h,g,q⟩;subst j h;refine RX f s c H _ _ v u Q I d i ⟨_,_,rfl,rfl,by rw[BG,BG];exact g,?_⟩;have e:(V.e ((⟨a.toArray⟩:Str)++⟨b.toArray⟩))=tx (a++b):=by
  unfold tx;congr 1;show(⟨a.toArray++b.toArray⟩:Str)=_;simp
 rw[e];exact q
def wj:R2:=λx y H Q=>∃a i c,x=tx a/\y= .a i/\a.length<=sizeLine/\pY a i=ae c/\Q (tx [c]) H
def yD:vC X wj:=by
 rintro e f h s g H x y v u Q I b d ⟨a,i,c,n,m,j,l,q⟩ k;subst n m;exact YN e f h s g H _ _ v u Q I b d ⟨_,i,c,rfl,rfl,by rw[BG];exact j,by simpa using l,q⟩ k
def uR:pH X (.builtin "len") (λb H Q=>∃a,b=[tx a]/\a.length<=sizeLine/\Q (.a a.length) H):=by
 rintro f s c H b d Q I r ⟨a,e,g,q⟩;subst e;refine Qd f s c H _ d Q I r ⟨_,rfl,by rw[BG];exact g,?_⟩;rw[BG];exact q
def wU:pZ X (bu .In) (λx y H Q=>∃c l,x=tx [c]/\y=tx l/\Q (.c (decide (c∈l))) H):=by
 rintro f s a H x y v u Q I b d ⟨c,l,h,g,q⟩;subst h g;refine SX f s a H _ _ v u Q I b d ⟨_,_,rfl,rfl,?_⟩;have e:=jc (⟨l.toArray⟩:Str) c;simp only at e;rw[show(⟨[c].toArray⟩:Str)=⟨#[c]⟩from rfl,e];exact q
def uO:pZ X (bu .NotIn) (λx y H Q=>∃c l,x=tx [c]/\y=tx l/\Q (.c (!decide (c∈l))) H):=by
 rintro f s a H x y v u Q I b d ⟨c,l,h,g,q⟩;subst h g;refine QS f s a H _ _ v u Q I b d ⟨_,_,rfl,rfl,?_⟩;have e:=jc (⟨l.toArray⟩:Str) c;simp only at e;rw[show(⟨[c].toArray⟩:Str)=⟨#[c]⟩from rfl,e];exact q
theorem Ld(a:gk):∀ (n:Nat) (b:Array Nat),((aZ n a.toArray).foldl (· ++ ·) b)=(b.toList++(aZ n a).flatten).toArray
 |0,b=>by simp
 |n+1,b=>by
  rw[ci,mT,Ld a n,ci,cu];simp
set_option tactic.hygienic true in
def Mo:pZ X (eN .Mult) (λx y H Q=>∃a k,x=tx a/\y= .a k/\0<=k/\k<=1000/\a.length<=1000/\Q (tx (aZ k.toNat a).flatten) H):=by
 rintro l s h H x y v u Q I b d ⟨a,k,g,f,n,m,c,q⟩;subst g f;obtain⟨t,rfl⟩:=b;obtain⟨B,rfl⟩:=d;have e:Txt.mul ⟨a.toArray⟩ k=⟨((aZ k.toNat a).flatten).toArray⟩:=by
  unfold Txt.mul
  by_cases hk:k<1
  .have:k=0:=by lia
   subst this
   rfl
  .rw[aP hk]
   split
   .rename_i hc
    rw[BG]at hc;simp only[ce,bP]at hc;rcases hc with hc|hc
    .subst hc;simp
    .have:a=[]:=gK.mp hc;subst this;simp
   .simp only;rw[Ld];simp
 refine SB.mul ⟨by simp;lia,λi _=>?_,λi _=>?_⟩ λj z=>⟨tx (aZ k.toNat a).flatten,H,I.Z z,⟨j,by rw[e]⟩,q⟩
 .rw[BG];have:(1000:Int)<=(2^63-1)/k:=by
   refine Int.le_ediv_of_mul_le oZ ?_;lia
  lia
 .rw[BG];unfold Builtin.Str.tooLong;have G:sizeLine=16777216:=bV;have:a.length*k.toNat<=1000*1000:=Nat.mul_le_mul c oZ;simp;lia
def Aq{h:Type}(xs:List h)(k l:Option Int):List h:=(xs.drop (qj xs.length 0 k)).take (qj xs.length xs.length l-qj xs.length 0 k)
def Oh(v:Option Int)(n d:Nat)(h:d<=n):(match v with|none=>(d:Int)|some i=>max 0 (min (if i<0 then i+(n:Int)else i) (n:Int)))=((qj n d v:Nat):Int):=by
 cases v with
 |none=>rfl
 |some i=>
  show max 0 (min (if i<0 then i+(n:Int)else i) (n:Int))=(((if i<0 then(i+(n:Int)).toNat else min i.toNat n):Nat):Int)
  by_cases b:i<0
  .simp only[aU b];lia
  .simp only[aP b];lia
def WM(h l:Option Int)(n:Nat):fI h l 1 n=(aH (qj n n l-qj n 0 h)).map λk=>qj n 0 h+k:=by
 have d:(1:Int)>0:=by lia
 have b:fI h l 1 n=j7 ((qj n 0 h:Nat):Int) ((qj n n l:Nat):Int) 1:=by
  unfold fI;simp only[d,gG];congr 1
  .cases h with
   |none=>rfl
   |some i=>exact Oh (ae i) n 0 (bt _)
  .cases l with
   |none=>rfl
   |some i=>exact Oh (ae i) n n (am _)
 rw[b];unfold j7;simp only[d,gG];have e:(if((qj n 0 h:Nat):Int)<((qj n n l:Nat):Int)then(((qj n n l:Nat):Int)-((qj n 0 h:Nat):Int)+1-1)/1 else 0).toNat=qj n n l-qj n 0 h:=by
  split<;>lia
 rw[e];refine dO λk _=>?_;lia
def UR(a:gk)(i k:Nat):((aH k).map λm=>i+m).filterMap (λj=>a.toArray[j]?)=(a.drop i).take k:=by
 rw[List.filterMap_map]
 induction k generalizing i with
 |zero=>simp
 |succ k b=>
  rw[cr,j0,b i,cL];congr 1;simp only[dQ,List.filterMap_nil,Function.comp];rw[lj];simp only[jZ]
  cases a[i+k]? <;>rfl
def N9(a:List α)(h k:Option Int):(Aq a h k).length<=a.length:=by
 unfold Aq;rw[cU,jq];lia
def xu:V->Option Int->Option Int->Hp->VK->Prop:=λx lo hi H Q=>∃a,x=tx a/\a.length<=sizeLine/\Q (tx (Aq a lo hi)) H
set_option tactic.hygienic true in
def yw:wC X xu:=by
 rintro m s h H x v y z c f Z Q I B G J L ⟨a,e,n,q⟩;subst e;obtain⟨t,rfl⟩:=B;refine⟨"str",_,F.slot_str_getitem.lookup,dI _ _ _,?_⟩;obtain⟨l,M,P⟩:∃l:Option (Int×Tok),y=partValue l/\l.map (·.1)=c:=by
  cases J with
  |none=>exact⟨none,rfl,rfl⟩
  |int i t=>exact⟨ae (i,t),rfl,rfl⟩
 obtain⟨u,R,S⟩:∃u:Option (Int×Tok),z=partValue u/\u.map (·.1)=f:=by
  cases L with
  |none=>exact⟨none,rfl,rfl⟩
  |int i t=>exact⟨ae (i,t),rfl,rfl⟩
 subst M R;refine wpAny_getItem_str_slice (l:=l) (u:=u) (st:=none) G rfl ?_;have T:=N9 a c f;have j:i' ⟨a.toArray⟩ l u none=(aH (qj a.length a.length f-qj a.length 0 c)).map λk=>qj a.length 0 c+k:=by
  unfold i';rw[P,S,BG];exact WM c f a.length
 have U:((i' ⟨a.toArray⟩ l u none).filterMap (a.toArray[·]?))=Aq a c f:=by
  rw[j];exact UR a _ _
 unfold sliceMade;refine post_val_or_str ?_;have g:(if((Option.map (λx=>x.1) (none:Option (Int×Tok))).getD 1==1&&(i' ⟨a.toArray⟩ l u none).length==(⟨a.toArray⟩:Str).length)=aw then(⟨a.toArray⟩:Str)else⟨((i' ⟨a.toArray⟩ l u none).filterMap (a.toArray[·]?)).toArray⟩)=⟨(Aq a c f).toArray⟩:=by
  rw[U]
  split
  .rename_i d
   rw[j,BG]at d;simp only[Option.map_none,jm,f7,jj,az,dt,bP]at d;have o:qj a.length a.length f<=a.length:=wN _ _ (am _) _;have h0:qj a.length 0 c=0\/a.length=0:=by lia
   unfold Aq;rw[d];rcases h0 with h0|h0
   .rw[h0,fX,dZ]
   .have:a=[]:=gK.mp h0;subst this;simp
  .rfl
 have b:=g;simp only at b⊢;rw[b];refine⟨by rw[BG];lia,λY k=>⟨tx (Aq a c f),H,I.Z k,⟨Y,rfl⟩,q⟩⟩
def U3:pH X (.builtin "isinstance") (λi H Q=>∃x T t b,i=[x, .h T]/\pQ X.K H x t/\W.kitOne X.K t (.type T)=ae b/\Q (.c b) H):=by
 rintro f s c H i z Q I r ⟨x,T,t,b,e,a,hk,q⟩;subst e;obtain⟨u,B,rfl,j,d⟩:=vals2 r
 cases d
 exact Sr I j a hk λy=>⟨.c b,H,I.Z y,rfl,q⟩
def Tf:pH X (.builtin "all") (λM H Q=>X.calm=aw/\∃ (a:ay) (bs:List Bool),M=[.b a]/\pq X.K H a (bs.map V.c)/\Q (.c (bs.all id)) H):=by
 rintro g s f H M p Q I r ⟨l,a,bs,e,k,q⟩;subst e;obtain⟨u,rfl,R⟩:=vals1 r
 cases R
 obtain⟨j,rv,J,C⟩:=I.J k;obtain⟨w,L,_⟩:=id J.isList;have S:a<s.1.1.size:=ax L;have d:=rv.J;rw[az]at d;refine call_all_walk (fM J.isList ⟨s.1.1.size,_,_,_,_,_,λi=>bs.getD i au,rfl,nj (A:=X.A.in1) (I.e.k l) s.1.1.size a (aT S) j.toArray,⟨⟨_,aq _ rfl,rfl,rfl⟩,J.isList.at λo e=>af _ e⟩,?_,λD T U=>?_⟩)
 .intro i v t E O Y B;have G:j[i]? =ae v:=by simpa using Y
  have c:i<bs.length:=by rw[d];exact(aR.mp G).1
  obtain⟨n,P,Z⟩:=rv.ld (i:=i) (x:=V.c bs[i]) (by simp[c]);rw[G]at P
  cases P
  cases Z
  have:bs.getD i au=bs[i]:=by simp[ag,c]
  simp only[this]at B;exact cI B
 .have e:(aH j.toArray.size).all (λi=>bs.getD i au)=bs.all id:=by
   rw[aA,<-d];rw[fe];simp only[a',bR,id]
   constructor
   .intro h b m;obtain⟨i,c,rfl⟩:=eO.mp m;have:=h i c;simpa[ag,c]using this
   .intro h i c;have:=h bs[i] (d2 c);simpa[ag,c]using this
  rw[e];have N:Inv X g f H {s with heap:=s.heap.push {cls:= .type "list_iterator",data:= .fields #[.ref a, .int 0 0]}}:=I.ap (t':=s.toks) λb o z=>af _ z;refine⟨.c (bs.all id),H,I.ap (t':=T) λb o z=>U b o (λy=>?_) (af _ z),rfl,q⟩;exact absurd (ax z) (by rw[aS.mp y];exact ck _)
def qT:gr->gr->Bool
 |[],[]=>aw
 |x::xs,y::ys=>rM x y&&qT xs ys
 |_,_=>au
theorem HY:∀ {b d:gr},b.length≠d.length->qT b d=au
 |[],[],h=>absurd rfl h
 |[],_::_,_=>rfl
 |_::_,[],_=>rfl
 |x::b,y::d,h=>by
  have:qT b d=au:=HY (by simpa using h);show(rM x y&&qT b d)=au;rw[this,Bool.and_false]
theorem Gp:∀ (b d:gr),b.length=d.length->(aH b.length).all (λi=>rM (b.getD i .d) (d.getD i .d))=qT b d
 |[],[],_=>rfl
 |x::b,y::d,h=>by
  have e:=Gp b d (by simpa using h);rw[aJ,gO,gM,n8];show(rM x y&&_)=(rM x y&&qT b d);rw[<-e]
  rfl
 |[],_::_,h=>by simp at h
 |_::_,[],h=>by simp at h
def IC{A:fL}{s:ak}{ws:List ai}(y:Vals xs us)(z:Vals ys ws)(B:xs.all BB=aw)(G:ys.all BB=aw):
 ∀j (b:j<us.toArray.size) (d:j<ws.toArray.size),nk A s us.toArray[j] ws.toArray[j] (rM (xs.getD j .d) (ys.getD j .d)):=by
 intro j b d;have R:=y.J;have S:=z.J;rw[aA]at b d;have a:j<xs.length:=by lia
 have e:j<ys.length:=by lia
 obtain⟨u,H,I⟩:=y.ld (i:=j) (x:=xs[j]) (by simp[a]);obtain⟨c,J,L⟩:=z.ld (i:=j) (x:=ys[j]) (by simp[e]);have M:us.toArray[j]=u:=by
  have:=al (l:=us) (i:=j) b;rw[H]at this;simpa using(bv this).symm
 have P:ws.toArray[j]=c:=by
  have:=al (l:=ws) (i:=j) d;rw[J]at this;simpa using(bv this).symm
 rw[M,P];have Q:xs.getD j .d=xs[j]:=by simp[ag,a]
 have f:ys.getD j .d=ys[j]:=by simp[ag,e]
 rw[Q,f];exact N6 I L (a'.mp B _ (d2 a)) (a'.mp G _ (d2 e))
def GW(K:aB)(i:Bool):R2:=λx y H Q=>∃a b d e,x= .b a/\y= .b b/\pq K H a d/\pq K H b e/\d.all BB=aw/\e.all BB=aw/\Q (.c (if i then !qT d e else qT d e)) H
def X9(d:X.A.units<iw):pZ X (bu .Eq) (GW X.K au):=by
 rintro r s m H x y v u Q I G J ⟨a,b,xs,ys,l,k,f,c,h,g,q⟩;subst l k
 cases G
 cases J
 obtain⟨M,e,i,o⟩:=I.J f;obtain⟨p,j,z,n⟩:=I.J c;have L:=e.J;have P:=j.J
 by_cases B:xs.length=ys.length
 .refine SeqAt.eq_listAt i.isList z.isList (by simp;lia) d (IC e j h g) ⟨.c _,H,I,rfl,?_⟩;rw[aA,<-L,Gp xs ys B];exact q
 .refine SeqAt.eq_list_lengthsAt i.isList z.isList (by simp;lia) d ⟨.c _,H,I,rfl,?_⟩;rw[<-HY B];exact q
def X6(d:X.A.units<iw):pZ X (bu .NotEq) (GW X.K aw):=by
 rintro r s m H x y v u Q I G J ⟨a,b,xs,ys,l,k,f,c,h,g,q⟩;subst l k
 cases G
 cases J
 obtain⟨M,e,i,o⟩:=I.J f;obtain⟨p,j,z,n⟩:=I.J c;have L:=e.J;have P:=j.J
 by_cases B:xs.length=ys.length
 .refine SeqAt.RcNeAt.lists i.isList z.isList (by simp;lia) d (IC e j h g) _ _ _ _ ⟨.c _,H,I,rfl,?_⟩;rw[aA,<-L,Gp xs ys B];exact q
 .refine SeqAt.RcNeAt.lists_lengths i.isList z.isList (by simp;lia) d _ _ _ _ ⟨.c _,H,I,rfl,?_⟩;have:qT xs ys=au:=HY B;rw[aU rfl,this]at q;exact q
def EE:V->Bool
 | .d=>aw
 | .c _=>aw
 |_=>au
set_option tactic.hygienic true in
def X8:pZ X (bu .Is) (λx y H Q=>EE y=aw/\Q (.c (decide (x=y))) H):=by
 rintro f s c H x y v u Q I b i ⟨a,q⟩;refine wpAny_is_plain ?_ ⟨.c _,H,I,?_,q⟩
 .cases y<;>first
   |(exact absurd a av)
   |(cases i;cases x<;>first|(cases b;rfl)|(obtain⟨t,rfl⟩:=b;rfl))
 .cases y<;>first
   |(exact absurd a av)
   |(cases i;cases x<;>first|(cases b;rfl)|(obtain⟨t,rfl⟩:=b;rfl)|(cases b;rename_i d _ e;cases d<;>cases e<;>rfl)|(cases b;rename_i d e;cases d<;>cases e<;>rfl)|(cases b;rename_i d _ e _;cases d<;>cases e<;>rfl))
set_option tactic.hygienic true in
def SW:pZ X (bu .IsNot) (λx y H Q=>EE y=aw/\Q (.c (!decide (x=y))) H):=by
 rintro f s c H x y v u Q I b i ⟨a,q⟩;refine wpAny_isNot_plain ?_ ⟨.c _,H,I,?_,q⟩
 .cases y<;>first
   |(exact absurd a av)
   |(cases i;cases x<;>first|(cases b;rfl)|(obtain⟨t,rfl⟩:=b;rfl))
 .cases y<;>first
   |(exact absurd a av)
   |(cases i;cases x<;>first|(cases b;rfl)|(obtain⟨t,rfl⟩:=b;rfl)|(cases b;rename_i d _ e;cases d<;>cases e<;>rfl)|(cases b;rename_i d e;cases d<;>cases e<;>rfl)|(cases b;rename_i d _ e _;cases d<;>cases e<;>rfl))
def tj:R2:=λx y H Q=>(∃i j,x= .a i/\y= .a j/\Q (.a (i+j)) H)\/(∃a b,x=tx a/\y=tx b/\a.length+b.length<=sizeLine/\Q (tx (a++b)) H)\/xD x y H Q
def AM:pZ X (eN .Add) tj:=wV.J (vY.J YB)
def OQ:R2:=λx y H Q=>∃a k,x=tx a/\y= .a k/\0<=k/\k<=1000/\a.length<=1000/\Q (tx (aZ k.toNat a).flatten) H
def sI:R2:=λx y H Q=>(∃i j,x= .a i/\y= .a j/\vy i j/\Q (.a (i*j)) H)\/wQ x y H Q\/OQ x y H Q
def Bg:pZ X (eN .Mult) sI:=wR.J (vo.J Mo)
def FF(K:aB):R2:=λx y H Q=>yY x y H Q\/GW K au x y H Q
def Af(K:aB)(b:X.A.units<iw)(d:X.K=K<|>n'):pZ X (bu .Eq) (FF K):=by subst d;exact xH.J (X9 b)
def GV(K:aB):R2:=λx y H Q=>yX x y H Q\/GW K aw x y H Q
def CA(K:aB)(b:X.A.units<iw)(d:X.K=K<|>n'):pZ X (bu .NotEq) (GV K):=by subst d;exact xG.J (X6 b)
def JK(K:aB):R2:=λx y H Q=>(∃c l,x=tx [c]/\y=tx l/\Q (.c (decide (c∈l))) H)\/xZ K au x y H Q
def Cv(K:aB)(b:X.K=K<|>n'):pZ X (bu .In) (JK K):=by subst b;exact wU.J SY
def Hu(K:aB):R2:=λx y H Q=>(∃c l,x=tx [c]/\y=tx l/\Q (.c (!decide (c∈l))) H)\/xZ K aw x y H Q
def FS(K:aB)(b:X.K=K<|>n'):pZ X (bu .NotIn) (Hu K):=by subst b;exact uO.J QT
def xA:R2:=λx y H Q=>EE y=aw/\Q (.c (decide (x=y))) H
def Bm:pZ X (bu .Is) xA:=X8
def uu:R2:=λx y H Q=>EE y=aw/\Q (.c (!decide (x=y))) H
def SV:pZ X (bu .IsNot) uu:=SW
def FE(K:aB):R2:=λx y H Q=>wj x y H Q\/PD K x y H Q\/PB K x y H Q
def Zv(K:aB)(b:X.K=K<|>n'):vC X (FE K):=by subst b;exact yD.J (v5.J YM)
def GU(K:aB):V->Option Int->Option Int->Hp->VK->Prop:=λx lo hi H Q=>xu x lo hi H Q\/O9 K x lo hi H Q
def A7(K:aB)(b:X.K=K<|>n'):wC X (GU K):=by subst b;exact yw.J VH
def FD(K:aB):gr->Hp->VK->Prop:=λd H Q=>(∃a,d=[tx a]/\a.length<=sizeLine/\Q (.a a.length) H)\/∃p b,d=[.b p]/\(pq K H p b\/pX K H p b)/\Q (.a b.length) H
def Tc(K:aB)(b:X.K=K<|>n'):pH X (.builtin "len") (FD K):=by subst b;exact uR.J Qe
def PF(K:aB):gr->Hp->VK->Prop:=λb H Q=>∃ (a:ay) (c:List Bool),b=[.b a]/\pq K H a (c.map V.c)/\Q (.c (c.all id)) H
def EV(K:aB)(b:X.calm=aw)(d:X.K=K<|>n'):pH X (.builtin "all") (PF K):=by subst d;exact λc s a H e i Q I r h=>Tf c s a H e i Q I r ⟨b,h⟩
def JJ(K:aB):gr->Hp->VK->Prop:=λd H Q=>∃x T t b,d=[x, .h T]/\pQ K H x t/\W.kitOne K t (.type T)=ae b/\Q (.c b) H
def Dr(K:aB)(b:X.K=K<|>n'):pH X (.builtin "isinstance") (JJ K):=by subst b;exact U3
def xy:gr->Hp->VK->Prop:=λb H Q=>∃i j,b=[.a i, .a j]/\Q (.a (if j>i then j else i)) H
def xw:gr->Hp->VK->Prop:=λb H Q=>∃i j,b=[.a i, .a j]/\Q (.a (if j<i then j else i)) H
def K4(b:X.calm=aw):pH X (.builtin "max") xy:=TZ b
def HA(b:X.calm=aw):pH X (.builtin "min") xw:=TY b
def xB:gr->Hp->VK->Prop:=λb H Q=>(∃i,b=[.a i]/\Q (.a i) H)\/∃k,b=[.c k]/\Q (.a (if k then 1 else 0)) H
def CV:pH X (.type "int") xB:=Td
def Os(K:aB)(d:TE):TT:=λa H Q=>d a H λx b=>∃k,Dn K x b k/\Q k b
def BD(K:aB){a:dH}{h:TE}(b:PE X a h)(d:(∀c,kT a X.a c=(do let v<-c;hU a.pos;gQ [v] (truthy v)))<|>q0)(e:X.K=K<|>n'):PT X a (Os K h):=by subst e;exact UM b d
def C9(K:aB){l:dH}(b:PE X l tl)(d:X.K=K<|>n'):PI X tg l (Iy K tl):=by subst d;exact Vv b
def SN(K:aB){a:dH}{pos:Pos}{k:Nat}(h:Gl X "enumerate")(b:X.h "enumerate"=none)(d:PA X [a] ta)(e:aI [a] X.a=[(au,eval a X.a)]<|>n')(i:X.K=K<|>n'):PI X (.Tuple elts k tpos) (.Call (.Name "enumerate" p) [a] [] pos) (JL K ta):=by subst i;exact UT h b d e
def B2(K:aB){k:Nat}{t:tF}{pos:Pos}(d:X.calm=aw)(h:xm X es t)
 (e:(fq es X.a).length=n<|>n') (b:(fq es X.a).findIdx? (·.1)=none<|>n') (i:X.K=K<|>n'):PG X (.Tuple es k pos) (FI K n t):=by subst i;exact Xx d h e b
def Hw(K:aB){T id:String}(k:lJ T)(h:Slot T name id)(e:oG (.builtin id)=pure (.type "method_descriptor"))(i:wb X id r)(j:PE X o to)
 (b:eh o name X.a (eval o X.a)=eval o X.a<|>n') (d:(apos.endLine==cpos.line)=aw<|>n') (x:X.K=K<|>n'):PE X (.Call (.Attribute o name apos) [] [] cpos) (JF K T r to):=by subst x;exact X2 k h e i j b d
def Ax(K:aB){e:dH}{T id:String}(k:lJ T)(h:Slot T name id)(y:oG (.builtin id)=pure (.type "method_descriptor"))(z:wb X id r)(B:PE X o to)(G:PA X (e::es) t)
 (d:eh o name X.a (eval o X.a)=eval o X.a<|>n')
 (j:((dN cpos (aI (e::es) X.a)).all (λx=> !x.1)&&(iA cpos (fD [] X.a)).all (λx=>x.1.isSome)
   &&decide ((e::es).length+([]:List kJ).length+(if([]:List kJ).isEmpty then 0 else 1)<30))=aw<|>n')
 (i:(apos.endLine==cpos.line)=aw<|>n') (H:qr X e es<|>n') (b:(dN cpos (aI es X.a)).any (·.1)=au<|>n') (I:X.K=K<|>n'):
 PE X (.Call (.Attribute o name apos) (e::es) [] cpos) (yv K T r to t):=by subst I;exact ZL k h y z B G d j i H b
def Ac{x:Str}{v:V}{pos:Pos}(h:∃u,X.h x=ae u/\RelV v u)(k:Gl X x<|>n')(l:qq x<|>pu):PE X (.Name x pos) (tC v):=by
 obtain⟨u,b,r⟩:=h;exact Vz k b r l
def D8{x:Str}{T:String}{pos:Pos}(b:X.h x=none)(d:fE x=ae (.type T))(h:Gl X x<|>n')(e:x≠"__name__"<|>pu)(k:qq x<|>pu):PE X (.Name x pos) (tC (.h T)):=
 V6 h b d rfl e k
structure zf (P:bW) (w:dh) (K:aB) (mg:Str->Option ai) (base:dg) (k:Nat) (x:Str) (ps:hE) (sp:Sp):Prop where
 a:∃f fd,pV P w K mg base tI k f fd ps sp/\mg x=ae (.ref f)/\W.keepIn K (.ref f)=aw/\Binds K fd ps []
def AN{k:Nat}{x:Str}{h:hE}{e:dH}{pos:Pos}(U:zf X.d X.w X.K X.h X.f k x h sp)(i:pM k X.A)(j:PA X (e::es) t)(l:Gl X x<|>n')
 (b:qq x<|>pu) (y:qr X e es<|>n') (d:(dN pos (aI es X.a)).any (·.1)=au<|>n'):
 PE X (.Call (.Name x p) (e::es) [] pos) (D6 sp [] E0 t):=by
 obtain⟨f,a,F,z,hk,B⟩:=U.a;exact V5 F i l z hk B .nil E6 j b y d
section
variable{O:pz}{D:Ends}
def OM{t u:TS}(h:t {D with nx:=u D} O H):FA t u D O H:=h
def Zh{c:TT}{t u:TS}(h:c O H λb d=>if b=aw then t D O d else u D O d):EB c t u D O H:=h
def ZG{g:TG}(h:te O H λx b=>g x O b D.nx):CN te g D O H:=h
def ZF{i:Nat}{k:wB}(e:O[i]? =ae (ae x))(h:te O H λy b=>k x y b λz d=>D.nx (O.set i (ae z)) d):Oz i te k D O H:=⟨x,e,h⟩
def D7(h:Q (.a (f i j)) H):yE f (.a i) (.a j) H Q:=⟨i,j,rfl,rfl,h⟩
def Yp(h:te O H D.a):JD te D O H:=h
def XZ(h:te O H λ_ b=>D.nx O b):OE te D O H:=h
def W8(h:D.nx O H):ud D O H:=h
def Xf(h:D.b O H):we D O H:=h
def W9{i:Nat}{v:V}{R:pz->Hp->Prop}(h:R (O.set i (ae v)) H):BK i v O H R:=h
def XU{R:pz->Hp->Prop}(h:R O H):v8 [] O H R:=⟨rfl,h⟩
def Va{t:TG}{u:tF}{v:V}{r:gr}{R:pz->Hp->Prop}(h:t v O H λa b=>u r a b R):GN t u (v::r) O H R:=⟨v,r,rfl,h⟩
def DV{t:tF}{R:pz->Hp->Prop}(b:pX K H a xs)(d:xs.length=n)(h:t xs O H R):FI K n t (.b a) O H R:=⟨a,xs,rfl,b,d,h⟩
def XT{k:TE}{t:tW}{v:V}{R:pz->Hp->Prop}(h:to O H λo b=>k O b λi d=>t o i v d λe=>R O e):PY to k t v O H R:=h
def Yh{i:Nat}{v:V}(e:O[i]? =ae (ae v))(q:Q v H):Bx i O H Q:=⟨v,e,q⟩
def zo{v:V}(q:Q v H):tC v O H Q:=q
def Zd{r:R2}{k:TE}(h:k O H λx b=>tb O b λy d=>r x y d Q):uc r k tb O H Q:=h
def ZZ{r:V->Hp->VK->Prop}{k:TE}(h:k O H λx b=>r x b Q):yT r k O H Q:=h
def Yv{g:Int->V}(h:Q (g i) H):rU g (.a i) H Q:=⟨i,rfl,h⟩
def Xi{k:gr}{E:XK}(h:t O H λvs b=>sp (vs++k) b Q E):D6 sp k E t O H Q:=h
def Xg{l:TE}{k:TA}{R:gr->Hp->Prop}(h:l O H λx b=>k O b λd e=>R (x::d) e):CB l k O H R:=h
def Yu{R:gr->Hp->Prop}(h:R [] H):rj O H R:=h
def Zi{r:gr->Hp->VK->Prop}(h:t O H λvs b=>r vs b Q):xt r t O H Q:=h
def Y1(h:t O H λb d=>b.length<=sizeLine/\∀p,d p=none->Q (.b p) (upd d p (.a b))):GS t O H Q:=h
def Yk(h:t O H λb d=>b.length<=sizeLine/\∀p,d p=none->Q (.b p) (upd d p (.b b))):On t O H Q:=h
def Y5{t:TT}{k:TE}(h:t O H λc b=>if c=aw then k O b Q else tb O b Q):yV t k tb O H Q:=h
def ZI{t u:TT}(h:t O H λc b=>if c=aw then u O b R else R au b):O5 t u O H R:=h
def Zc{t u:TT}(h:t O H λc b=>if c=aw then R aw b else u O b R):yu t u O H R:=h
def Yt{t:TT}(h:t O H λc b=>R (!c) b):Ov t O H R:=h
def Xk{k:TE}(h:k O H λx b=>∃c,x= .c c/\if c=aw then tb O b Q else Q (.c au) b):OI k tb O H Q:=h
def Yq{k:TE}(h:k O H λx b=>∃c,x= .c c/\if c=aw then Q (.c aw) b else tb O b Q):Ou k tb O H Q:=h
def W7{k:TE}(h:k O H λx b=>∃c,x= .c c/\Q (.c (!c)) b):OD k O H Q:=h
def W0{t:TE}(h:t O H λx b=>∃k,x= .c k/\R k b):D5 t O H R:=h
def Ym{l:TE}(h:l O H λx b=>∃k,Dn K x b k/\R k b):Os K l O H R:=h
def Ve{r q:R2}{m l:TE}(h:m O H λx d=>tb O d λy e=>r x y e λz b=>∃k,z= .c k/\(if k=aw then l O b λi j=>q y i j Q else Q (.c au) b)):IM r q m tb l O H Q:=h
def Cg{R:Bool->Prop}(h:R c):∃k,V.c c=V.c k/\R k:=⟨c,rfl,h⟩
def Wz{R:Bool->Prop}(h:R c):∃k,Dn K (.c c) H k/\R k:=⟨c,rfl,h⟩
def Wy{a:gk}{R:Bool->Prop}(b:a.length<=sizeLine)(h:R (!decide (a=[]))):∃k,Dn K (tx a) H k/\R k:=by
 refine⟨!decide (a=[]),⟨by rw[BG];exact b,?_⟩,h⟩;rw[BG]
 cases a with
 |nil=>rfl
 |cons c r=>
  have:((c::r).length:Int)≠0:=by simp;lia
  rw[ba b'];exact(bne_iff_ne.mpr this).symm
def Ek{R:Bool->Prop}(b:pq K H a xs)(h:R (!xs.isEmpty)):∃k,Dn K (.b a) H k/\R k:=⟨_, .inl ⟨xs,b,rfl⟩,h⟩
def NZ(h:Q (.a (i+j)) H):tj (.a i) (.a j) H Q:= .inl ⟨i,j,rfl,rfl,h⟩
def BO{a b:gk}(d:a.length+b.length<=sizeLine)(h:Q (tx (a++b)) H):tj (tx a) (tx b) H Q:= .inr (.inl ⟨a,b,rfl,rfl,d,h⟩)
def Em(d:H a=ae (.a xs))(e:H b=ae (.a ys))(i:xs.length+ys.length<=sizeLine)(h:∀p,H p=none->Q (.b p) (upd H p (.a (xs++ys)))):tj (.b a) (.b b) H Q:= .inr (.inr ⟨a,b,xs,ys,rfl,rfl,d,e,i,h⟩)
def W1(h:Q (g i j) H):vU g (.a i) (.a j) H Q:=⟨i,j,rfl,rfl,h⟩
def Zb(b:C i j)(h:Q (g i j) H):rI C g (.a i) (.a j) H Q:=⟨i,j,rfl,rfl,b,h⟩
def XB(b:vy i j)(h:Q (.a (i*j)) H):sI (.a i) (.a j) H Q:= .inl ⟨i,j,rfl,rfl,b,h⟩
def E4{k:Int}(b:H a=ae (.a xs))(d: -(2^63)<=k)(e:k<2^63)(i:xs.length*k.toNat<=sizeLine)(h:∀p,H p=none->Q (.b p) (upd H p (.a (aZ k.toNat xs).flatten))):sI (.b a) (.a k) H Q:= .inr (.inl ⟨a,k,xs,rfl,rfl,b,d,e,i,h⟩)
def XA{a:gk}{k:Int}(l:0<=k)(b:k<=1000)(d:a.length<=1000)(h:Q (tx (aZ k.toNat a).flatten) H):sI (tx a) (.a k) H Q:= .inr (.inr ⟨a,k,rfl,rfl,l,b,d,h⟩)
def Y9(h:Q (.c (decide (i=j))) H):FF K (.a i) (.a j) H Q:= .inl ⟨rfl,by rw[show decide (V.a i=V.a j)=decide (i=j)from by rw[Fu];exact(j6 i j)];exact h⟩
def Y8{a b:gk}(h:Q (.c (decide (a=b))) H):FF K (tx a) (tx b) H Q:= .inl ⟨rfl,by rw[N7];exact h⟩
def ON(d:pq K H a xs)(e:pq K H b ys)(i:xs.all BB=aw)(j:ys.all BB=aw)(h:Q (.c (qT xs ys)) H):FF K (.b a) (.b b) H Q:= .inr ⟨a,b,xs,ys,rfl,rfl,d,e,i,j,h⟩
def Yy(h:Q (.c (!decide (i=j))) H):GV K (.a i) (.a j) H Q:= .inl ⟨rfl,by rw[show decide (V.a i=V.a j)=decide (i=j)from by rw[Fu];exact(j6 i j)];exact h⟩
def Yw{a b:gk}(h:Q (.c (!decide (a=b))) H):GV K (tx a) (tx b) H Q:= .inl ⟨rfl,by rw[N7];exact h⟩
def Yx(d:pq K H a xs)(e:pq K H b ys)(i:xs.all BB=aw)(j:ys.all BB=aw)(h:Q (.c (!qT xs ys)) H):GV K (.b a) (.b b) H Q:= .inr ⟨a,b,xs,ys,rfl,rfl,d,e,i,j,h⟩
def Y2{c:Nat}{l:gk}(h:Q (.c (decide (c∈l))) H):JK K (tx [c]) (tx l) H Q:= .inl ⟨c,l,rfl,rfl,h⟩
def UB{c:Nat}{l:gk}(h:Q (.c (!decide (c∈l))) H):Hu K (tx [c]) (tx l) H Q:= .inl ⟨c,l,rfl,rfl,h⟩
def GG(b:pq K H a xs\/pX K H a xs)(d:BB x=aw)(e:xs.all BB=aw)(h:Q (.c (su x xs)) H):JK K x (.b a) H Q:= .inr ⟨a,xs,rfl,b,d,e,h⟩
def LZ(b:pq K H a xs\/pX K H a xs)(d:BB x=aw)(e:xs.all BB=aw)(h:Q (.c (!su x xs)) H):Hu K x (.b a) H Q:= .inr ⟨a,xs,rfl,b,d,e,h⟩
def Zg{y:V}(b:EE y=aw)(h:Q (.c (decide (x=y))) H):xA x y H Q:=⟨b,h⟩
def BS{a:gk}{c:Nat}(b:a.length<=sizeLine)(d:pY a i=ae c)(h:Q (tx [c]) H):FE K (tx a) (.a i) H Q:= .inl ⟨a,i,c,rfl,rfl,b,d,h⟩
def AK{p:ay}{v:V}(b:pq K H p xs)(d:pY xs i=ae v)(h:Q v H):FE K (.b p) (.a i) H Q:= .inr (.inl ⟨p,xs,i,v,rfl,rfl,b,d,h⟩)
def BJ{p:ay}{v:V}(b:pX K H p xs)(d:pY xs i=ae v)(h:Q v H):FE K (.b p) (.a i) H Q:= .inr (.inr ⟨p,xs,i,v,rfl,rfl,b,d,h⟩)
def Za{r:V->Option Int->Option Int->Hp->VK->Prop}{k m:TO}(h:te O H λx b=>k O b λl d=>m O d λu e=>r x l u e Q):yt r te k m O H Q:=h
def UC{R:Option Int->Hp->Prop}(h:R none H):sv O H R:=h
def W2{t:TE}{R:Option Int->Hp->Prop}(h:t O H λx b=>∃i,x= .a i/\R (ae i) b):Ii t O H R:=h
def VO{R:Int->Prop}(h:R i):∃j,V.a i=V.a j/\R j:=⟨i,rfl,h⟩
def Il{a:gk}(b:a.length<=sizeLine)(h:Q (tx (Aq a lo hi)) H):GU K (tx a) lo hi H Q:= .inl ⟨a,rfl,b,h⟩
def E3{p:ay}(b:pq K H p xs)(h:∀r,H r=none->Q (.b r) (upd H r (.a (C7 xs lo hi)))):GU K (.b p) lo hi H Q:= .inr ⟨p,xs,rfl,b,h⟩
def NY{a:gk}(b:a.length<=sizeLine)(h:Q (.a a.length) H):FD K [tx a] H Q:= .inl ⟨a,rfl,b,h⟩
def BN{p:ay}(b:pq K H p ys\/pX K H p ys)(h:Q (.a ys.length) H):FD K [.b p] H Q:= .inr ⟨p,ys,rfl,b,h⟩
def E5{bs:List Bool}(b:pq K H a (bs.map V.c))(h:Q (.c (bs.all id)) H):PF K [.b a] H Q:=⟨a,bs,rfl,b,h⟩
def Bw{T:String}{t:ai}{b:Bool}(k:pQ K H x t)(e:W.kitOne K t (.type T)=ae b)(h:Q (.c b) H):JJ K [x, .h T] H Q:=⟨x,T,t,b,rfl,k,e,h⟩
def Y0(h:Q (.a (if j>i then j else i)) H):xy [.a i, .a j] H Q:=⟨i,j,rfl,h⟩
def Yz(h:Q (.a (if j<i then j else i)) H):xw [.a i, .a j] H Q:=⟨i,j,rfl,h⟩
def XO{k:Bool}(h:Q (.a (if k then 1 else 0)) H):xB [.c k] H Q:= .inr ⟨k,rfl,h⟩
def Zm{T:String}(h:to O H λx b=>wJ K T x b/\t O b λd e=>r x d e Q):yv K T r to t O H Q:=h
def ZE{T:String}(h:to O H λx b=>wJ K T x b/\r x [] b Q):JF K T r to O H Q:=h
end
section
variable{g:TG}{tb:TS}{D:Ends}{O:pz}
def CF(J:qo)(g:TG)(h:TS)(D:Ends)(O:pz)(H:Hp):Prop:=∃W:Nat->Nat->pz->Hp->Prop,(∃m,W 0 m O H)/\∀i m O H,W i m O H->
 (J.a i H/\D.nx O H)\/(J.d i H/\∃N:pz->Hp->Prop,(∀a b,N a b->∃d,d<m/\W (i+1) d a b)/\∀x b,J.c i H x b->g x O b λc e=>h {D with nx:=N,b:=N,c:=D.nx} c e)
def Y6(h:wi O H λJ b=>CF J g tb D O b):Ow wi g tb D O H:=h
def VU{R:qo->Hp->Prop}(h:ta O H λvs b=>∃j:Int,vs=[.a j]/\ -(2^62)<=j/\j<2^62/\R (uS 0 j.toNat) b):Oa ta O H R:=h
def VX{R:qo->Hp->Prop}(h:tl O H λx b=>∃a,x= .b a/\(∃d,pq K b a d)/\R (uA K a) b):Iy K tl O H R:=h
def XH{R:qo->Hp->Prop}(h:tl O H λx b=>∃z,x= .e z/\R (tL z) b):PU tl O H R:=h
def VR{a:gk}{R:Str->Prop}(h:R ⟨a.toArray⟩):∃z,tx a= .e z/\R z:=⟨_,rfl,h⟩
def XQ{R:qo->Hp->Prop}(h:ta O H λvs b=>∃z,vs=[.e z]/\R (EI z) b):PX ta O H R:=h
def VY{a:gk}{R:Str->Prop}(h:R ⟨a.toArray⟩):∃z,[tx a]=[.e z]/\R z:=⟨_,rfl,h⟩
def XS{R:qo->Hp->Prop}(h:ta O H λvs b=>∃a,vs=[.b a]/\(∃d,pq K b a d)/\R (JP K a) b):JL K ta O H R:=h
def WQ{k:Int}(h:Nat->pz->Hp->Prop)(m:h 0 O H)
 (b:∀i O H,i<n->h i O H->g (.a (k+i)) O H λa d=>tb {D with nx:=h (i+1),b:=h (i+1),c:=D.nx} a d) (l:∀O H,h n O H->D.nx O H):CF (uS k n) g tb D O H:=S7 h m b l
def WR(h:Nat->pz->Hp->Prop)(l:h 0 O H)(b:∀i O H,i<=xs.length->h i O H->pq K H a xs)
 (d:∀i x O H,xs[i]? =ae x->h i O H->g x O H λc e=>tb {D with nx:=h (i+1),b:=h (i+1),c:=D.nx} c e) (k:∀O H,h xs.length O H->D.nx O H):CF (uA K a) g tb D O H:=Lu h l b d k
def GA{J:qo}(h:Nat->pz->Hp->Prop)(l:h 0 O H)(j:∀i O H,i<n->h i O H->J.d i H)(z:∀O H,h n O H->J.a n H)
 (B:∀i x O H d,i<n->h i O H->J.c i H x d->g x O d λa G=>tb {D with nx:=h (i+1),b:=h (i+1),c:=D.nx} a G) (k:∀O H,h n O H->D.nx O H):CF J g tb D O H:=by
 refine⟨λi m O H=>m=n-i/\i<=n/\h i O H,⟨n,by simp,bt _,l⟩,?_⟩;rintro i m O H ⟨rfl,f,p⟩
 by_cases b:i<n
 .exact .inr ⟨j i O H b p,h (i+1),λc d I=>⟨n-(i+1),by lia,rfl,b,I⟩,λx d y=>B i x O H d b p y⟩
 .have e:i=n:=by lia
  subst e;exact .inl ⟨z O H p,k O H p⟩
def WP{a:gk}(h:Nat->pz->Hp->Prop)(m:h 0 O H)
 (b:∀i c O H,a[i]? =ae c->h i O H->g (tx [c]) O H λf d=>tb {D with nx:=h (i+1),b:=h (i+1),c:=D.nx} f d) (l:∀O H,h a.length O H->D.nx O H):CF (tL ⟨a.toArray⟩) g tb D O H:=by
 refine GA (n:=a.length) h m (λi O H k _=>by simpa[tL]using k) (λO H _=>by simp[tL]) (λi x O H j k p y=>?_) l;obtain⟨rfl,c,e,rfl⟩:=y;exact b i c O j (by simpa using e) p
def WT{a:gk}(h:Nat->pz->Hp->Prop)(m:h 0 O H)
 (b:∀i c O H T,a[i]? =ae c->H T=none->h i O H->g (.b T) O (upd H T (.b [.a i,tx [c]])) λf d=>tb {D with nx:=h (i+1),b:=h (i+1),c:=D.nx} f d) (l:∀O H,h a.length O H->D.nx O H):CF (EI ⟨a.toArray⟩) g tb D O H:=by
 refine GA (n:=a.length) h m (λi O H k _=>by simpa[EI]using k) (λO H _=>by simp[EI]) (λi x O H z k p y=>?_) l;obtain⟨T,c,j,e,rfl,rfl⟩:=y;exact b i c O H T (by simpa using e) j p
def CW(D:ay)(n:Nat)(h:Nat->gr->Hp->Prop)(i m:Nat)(H:Hp):Prop:=m=n-i/\i<=n/\∃b,H D=ae (.a b)/\b.length<=i/\h i b H
def BV(J:qo)(own:hE)(sel:gk)(O:pz)(g:TG)(I:TT)(L:TE)(Q:VK)(y:Hp):Prop:=∀D,y D=none->
 ∃W:Nat->Nat->Hp->Prop,(∃m,W 0 m (upd y D (.a [])))/\∀i m d,W i m d->
  (J.a i d/\Q (.b D) d)\/(J.d i d/\∀x z,J.c i d x z->g x (AZ own sel O) z λa M=>I a M λb B=>
    if b=aw then L a B λv G=>∃j,G D=ae (.a j)/\j.length<sizeLine/\∃e,e<m/\W (i+1) e (upd G D (.a (j++[v])))
    else∃e,e<m/\W (i+1) e B)
def Xh(h:wi O H λJ b=>BV J own sel O g tt te Q b):GE own sel wi g tt te O H Q:=h
def DG{J:qo}(h:ay->Nat->gr->Hp->Prop)(k:∀D,H1 D=none->h D 0 [] (upd H1 D (.a [])))
 (I:∀D i d H,H1 D=none->i<n->H D=ae (.a d)->h D i d H->J.d i H) (L:∀D d H,H1 D=none->H D=ae (.a d)->d.length<=n->h D n d H->J.a n H/\Q (.b D) H)
 (U:∀D i d H x B,H1 D=none->i<n->H D=ae (.a d)->d.length<=i->h D i d H->J.c i H x B->g x (AZ own sel O) B λa X=>tt a X λb R=>
   if b=aw then te a R λv S=>∃d,S D=ae (.a d)/\d.length<sizeLine/\∃j,j<n-i/\CW D n (h D) (i+1) j (upd S D (.a (d++[v])))
   else∃j,j<n-i/\CW D n (h D) (i+1) j R):BV J own sel O g tt te Q H1:=by
 intro D G;refine⟨CW D n (h D),⟨n,by simp,bt _,[],AF,am _,k D G⟩,?_⟩;rintro i m M ⟨rfl,c,d,P,T,p⟩
 by_cases z:i<n
 .exact .inr ⟨I D i d M G z P p,λx B y=>U D i d M x B G z P T p y⟩
 .have e:i=n:=by lia
  subst e;exact .inl (L D d M G P T p)
def B8{D:ay}{i:Nat}{v:V}(h:i<n)(e:n<=sizeLine)(d:H D=ae (.a ys))(j:ys.length<=i)(p:Pv (i+1) (ys++[v]) (upd H D (.a (ys++[v])))):
 ∃ys,H D=ae (.a ys)/\ys.length<sizeLine/\∃b,b<n-i/\CW D n Pv (i+1) b (upd H D (.a (ys++[v]))):=
 ⟨ys,d,by lia,n-(i+1),by lia,rfl,h,ys++[v],AF,by simp;lia,p⟩
def TN{D:ay}{i:Nat}(h:i<n)(d:H D=ae (.a ys))(e:ys.length<=i)(p:Pv (i+1) ys H):
 ∃b,b<n-i/\CW D n Pv (i+1) b H:=⟨n-(i+1),by lia,rfl,h,ys,d,by lia,p⟩
def OL(h:R aw H):qe O H R:=h
end
def small(h:n<=1000):n<=sizeLine:=bZ (B5 h)
def AL{p:ay}(h:H p=none)(o:HO):pj H (upd H p o):=λb u q=>by rw[AG (AQ q h)];exact q
def pf(p:ay)(H d:Hp):Prop:=∀b o,H b=ae o->b≠p->d b=ae o
def pf.mp(p:ay)(H:Hp):pf p H H:=λ_ _ h _=>h
def pf.J{p:ay}{k:Hp}(a:pf p H H1)(b:pf p H1 k):pf p H k:=λc o h n=>b c o (a c o h n) n
def pf.Z{p:ay}(a:pj H H'):pf p H H':=λc o h _=>a c o h
def pf.ap{p:ay}{o:HO}:pf p H (upd H p o):=λc u h n=>by rw[AG n];exact h
def NE(osc:ib)(N:hE)(own:hE)(sel:gk)(scope:ib):Bool:=
 (scope.kind== .function)&&scope.names.all (λy=>y.2 != .cell)&&scope.names.all (λy=>y.2 != .local||scope.names.lookup y.1==ae .local)&&
 scope.names.all (λy=>y.2 != .free||osc.names.lookup y.1==ae .cell||osc.names.lookup y.1==ae .free)&&
 sel.all (λj=>decide (j<N.length)&&scope.names.lookup (N.getD j cR)==ae .free&&(osc.names.lookup (N.getD j cR)==ae .cell||osc.names.lookup (N.getD j cR)==ae .free))
def TQ{osc:ib}{N:hE}(h:NE osc N own sel scope=aw):ua osc N own sel scope:=by
 unfold NE at h;simp only[aW,a']at h;obtain⟨⟨⟨⟨d,i⟩,x⟩,z⟩,B⟩:=h;refine⟨by simpa using d,λy b=>by simpa using i y b,λy b e=>?_,λy b e=>?_,λj G=>?_⟩
 .have:=x y b;simp only[ce,j9,bP]at this;rcases this with q|q
  .exact absurd e q
  .exact q
 .have:=z y b;simp only[ce,j9,bP]at this;rcases this with(q|q)|q
  .exact absurd e q
  .exact .inl q
  .exact .inr q
 .have:=B j G;simp only[ce,bP,bD]at this;exact⟨this.1.1,this.1.2,this.2⟩
def Dh(x:α)(r:List α):pY (x::r) 0=ae x:=by simp[pY,qW]
def Bj{p:ay}{k:Int}{j:Nat}{v:V}{R:Hp->Prop}(h:H p=ae (.a xs))(e:qW xs.length k=ae j)(q:R (upd H p (.a (xs.set j v)))):wg (.b p) (.a k) v H R:=⟨p,xs,k,j,rfl,rfl,h,e,q⟩
def WN(k:pz->Hp->Prop)(h:pz->Hp->Nat)(m:Nat):pz->Hp->Prop:=λa b=>k a b/\h a b<m
def HD{c:TT}{l:TS}{D:Ends}{O:pz}(h:pz->Hp->Prop)(k:pz->Hp->Nat)(q:h O H)
 (x:∀O H,h O H->c O H λb i=>if b=aw then∃N:pz->Hp->Prop,(∀a d,N a d->∃j,j<k O H/\(j=k a d/\h a d))/\l {D with nx:=N,b:=N,c:=D.nx} O i else D.nx O i):NM c l D O H:=
 ⟨λm O H=>m=k O H/\h O H,⟨_,rfl,q⟩,λm O H ⟨e,p⟩=>by subst e;exact x O H p⟩
def U9{s:TS}{D:Ends}{O:pz}{q:pz->Hp->Prop}{k:pz->Hp->Nat}{m:Nat}(h:s {D with nx:=WN q k m,b:=WN q k m,c:=D.nx} O H1):
 ∃N:pz->Hp->Prop,(∀a b,N a b->∃d,d<m/\(d=k a b/\q a b))/\s {D with nx:=N,b:=N,c:=D.nx} O H1:=
 ⟨WN q k m,λa b ⟨p,l⟩=>⟨_,l,rfl,p⟩,h⟩
def Ue{t u:TT}{O:pz}{d:Bool}(k:∀R:Bool->Hp->Prop,R c H->t O H R)(b:∀R:Bool->Hp->Prop,R d H->u O H R)(h:R (c||d) H):yu t u O H R:=by
 refine k _ ?_
 cases c with
 |true=>rw[aU rfl];exact h
 |false=>rw[aP av];exact b _ h
def RT{u:ai}(h:GY u=ae x):RelV x u:=by
 cases u<;>first
  |(cases h;rfl)
  |(cases h;exact⟨_,rfl⟩)
  |(exact absurd h (by intro z;cases z))
def Ih(its:Array ai)(xs:gr):Bool:=decide (its.toList.map GY=xs.map ae)
theorem Ji:∀ {b:gr} {us:List ai},us.map GY=b.map ae->Vals b us
 |[],[],_=> .nil
 |x::b,u::us,h=>by
  rw[aY,aY]at h;injection h with d e
  exact .cons (RT d) (Ji e)
 |[],_::_,h=>by cases h
 |_::_,[],h=>by cases h
def J0(h:Ih its xs=aw):Vals xs its.toList:=Ji (iR h)
def RN(h:Ih its xs=aw)(b:xs.length<=1000):its.size<=sizeLine:=by
 have e:=(J0 h).J;have d:its.toList.length=its.size:=by simp
 exact bZ (B5 oZ)
def VS{y:V}(b:EE y=aw)(h:Q (.c (!decide (x=y))) H):uu x y H Q:=⟨b,h⟩
def qu{c:Prop}[Decidable c](b:c->A)(d:¬c->B):if decide c=aw then A else B:=by
 by_cases h:c
 .rw[aU (be h)];exact b h
 .rw[aP (by rw[ba h];exact av)];exact d h
def zy{c:Prop}[Decidable c](b:¬c->A)(d:c->B):if(!decide c)=aw then A else B:=by
 by_cases h:c
 .rw[aP (by rw[be h];exact av)];exact d h
 .rw[aU (by rw[ba h];rfl)];exact b h
def pK(b:c=aw)(h:A):if c=aw then A else B:=by rw[aU b];exact h
def pL(b:c=au)(h:B):if c=aw then A else B:=by rw[aP (by rw[b];exact av)];exact h
def U6{k:Int}(l:0<=k)(h:k<(ns.length:Int)):∃v:Int,pY (ns.map V.a) k=ae (.a v):=by
 have hk:k.toNat<ns.length:=by lia
 have b:k=((k.toNat:Nat):Int):=by lia
 have q:pY (ns.map V.a) ((k.toNat:Nat):Int)=ae (.a ns[k.toNat]):=AU (by rw[ao,al hk];rfl);rw[<-b]at q;exact⟨_,q⟩
end
section
variable{i:Int}{st:gk}{d w:Nat}{Q:VK}{E:XK}
def qP:gk:=[40,91,123,60]
def cls:gk:=[41,93,125,62]
def qQ(c:Nat):Nat:=if c=40 then 41 else if c=91 then 93 else if c=123 then 125 else 62
def qY(st:gk)(c:Nat):Option (gk):=
 if c∈qP then ae (qQ c::st)else match st with
  |d::r=>if c=d then ae r else none
  |[]=>none
def run:gk->gk->Option (gk)
 |st,[]=>ae st
 |st,c::r=>(qY st c).bind λs=>run s r
def J4(st a b:gk):run st (a++b)=(run st a).bind λs=>run s b:=by
 induction a generalizing st with
 |nil=>rfl
 |cons c r d=>
  show(qY st c).bind _=((qY st c).bind _).bind _
  cases qY st c with
  |none=>rfl
  |some s=>exact d s
def HJ{s:gk}(h:run st a=ae s)(c:Nat):run st (a++[c])=qY s c:=by
 rw[J4,h];show(qY s c).bind (λs=>ae s)=qY s c
 cases qY s c<;>rfl
def FU(h:c∈qP)(st:gk):qY st c=ae (qQ c::st):=by unfold qY;rw[aU h]
def Gv(h:d∉qP)(r:gk):qY (d::r) d=ae r:=by unfold qY;rw[aP h];simp
def Rt(h:gk):Prop:=run [] h=ae []
def sO(k:Int)(c:Nat):Prop:=c∈qP.take k.toNat\/c∈cls.take k.toNat
def Nk{k:Int}(l:0<=i)(d:i<k)(h:k<=4):∃c,pY [40,91,123,60] i=ae c/\c∈qP/\c∈qP.take k.toNat/\pY [41,93,125,62] i=ae (qQ c)/\qQ c∈cls.take k.toNat/\qQ c∉qP:=by
 have:i=0\/i=1\/i=2\/i=3:=by lia
 have b:k=1\/k=2\/k=3\/k=4:=by lia
 rcases b with rfl|rfl|rfl|rfl<;>rcases this with rfl|rfl|rfl|rfl<;>first
  |lia
  |exact⟨40,by decide⟩
  |exact⟨91,by decide⟩
  |exact⟨123,by decide⟩
  |exact⟨60,by decide⟩
def zE(x y z:α)(h:0<=i)(b:i<3):∃v,pY [x,y,z] i=ae v/\(v=x\/v=y\/v=z):=by
 have:i=0\/i=1\/i=2:=by lia
 rcases this with rfl|rfl|rfl
 .exact⟨x,rfl, .inl rfl⟩
 .exact⟨y,rfl, .inr (.inl rfl)⟩
 .exact⟨z,rfl, .inr (.inr rfl)⟩
def L7(c:α)(r:List α):Aq (c::r) (ae 1) none=r:=by
 unfold Aq;have b:qj (c::r).length 0 (ae 1)=1:=by
  show qj (r.length+1) 0 (ae ((1:Nat):Int))=1;rw[sE];lia
 have d:qj (c::r).length (c::r).length none=r.length+1:=rfl;rw[b,d];simp
def sg(c:Nat):Int:=if c∈qP then 1 else -1
def hg:gk->Int
 |[]=>0
 |c::r=>sg c+hg r
def S4(a b:gk):hg (a++b)=hg a+hg b:=by
 induction a with
 |nil=>simp[hg]
 |cons c r d=>rw[List.cons_append,hg,hg,d];lia
def ht(a:gk)(i:Nat):Int:=hg (a.take i)
def M5{i:Nat}(h:a[i]? =ae c):ht a (i+1)=ht a i+sg c:=by
 unfold ht;rw[cL,h,S4];show _=hg _+sg c;simp[hg]
def VD{s:gk}(h:qY st c=ae s):(s.length:Int)=st.length+sg c:=by
 unfold qY at h;unfold sg
 by_cases b:c∈qP
 .rw[aU b]at h⊢
  cases h
  simp
 .rw[aP b]at h⊢
  cases st with
  |nil=>cases h
  |cons d r=>
   simp only at h
   split at h
   .cases h;simp;lia
   .cases h
def Vk{s:gk}(h:run st a=ae s):(s.length:Int)=st.length+hg a:=by
 induction a generalizing st with
 |nil=>cases h;simp[hg]
 |cons c r d=>
  have b:(qY st c).bind (λs=>run s r)=ae s:=h
  cases e:qY st c with
  |none=>rw[e]at b;cases b
  |some i=>
   rw[e]at b;have:=d b;have:=VD e;rw[hg];lia
def UF{s:gk}(h:run [] a=ae s)(i:Nat):∃st,run [] (a.take i)=ae st:=by
 have e:a=a.take i++a.drop i:=(jS i a).symm;rw[e,J4]at h
 cases q:run [] (a.take i)with
 |none=>rw[q]at h;cases h
 |some st=>exact⟨st,rfl⟩
def Iz{i:Nat}(h:run [] (a.take i)=ae st):ht a i=st.length:=by
 have:=Vk h;unfold ht;simp at this;lia
def Pr(a:gk)(x y:Nat):Prop:=x<y/\y<a.length/\ht a (y+1)=ht a x/\∀m,x<m->m<=y->ht a x<ht a m
def IsPart(a:gk)(xs:gr):Prop:=xs.length=a.length/\∀k,k<a.length->∃p:Nat,xs[k]? =ae (.a p)/\(Pr a k p\/Pr a p k)
inductive WS (a:gk) (i:Nat):gk->gk->Prop where
 |b:WS a i [] []
 |a {w c:Nat} {ws st:gk}:w<i->a[w]? =ae c->c∈qP->ht a w=ws.length->(∀m,w<m->m<=i->ht a w<ht a m)->WS a i ws st->WS a i (w::ws) (qQ c::st)
def WS.J{ws:gk}{i:Nat}(h:WS a i ws st):ws.length=st.length:=by
 induction h with
 |b=>rfl
 |a _ _ _ _ _ _ b=>simp[b]
def WS.Z{ws:gk}{i:Nat}(h:WS a i ws st)(d:(ws.length:Int)<=ht a (i+1)):WS a (i+1) ws st:=by
 induction h with
 |b=>exact .b
 |a H j x y z _ B=>
  simp only[aJ]at d;refine .a oZ j x y (λm b G=>?_) (B oZ)
  by_cases e:m=i+1
  .subst e;lia
  .exact z m b oZ
structure MI (a:gk) (i:Nat) (st ws:gk) (xs:gr):Prop where
 c:run [] (a.take i)=ae st
 d:WS a i ws st
 b:xs.length=a.length
 e:∀k,k<i->k∈ws\/∃p:Nat,xs[k]? =ae (.a p)/\(Pr a k p\/Pr a p k)
def MI.Z(a:gk)(h:xs.length=a.length):MI a 0 [] [] xs:=⟨rfl, .b,h,λk z=>by lia⟩
def HK{i:Nat}(h:run [] (a.take i)=ae st)(b:a[i]? =ae c):run [] (a.take (i+1))=qY st c:=by
 rw[cL,b];exact HJ h c
def MI.ap{ws:gk}{i:Nat}(m:MI a i st ws xs)(b:a[i]? =ae c)(d:c∈qP):MI a (i+1) (qQ c::st) (i::ws) xs:=by
 have j:ht a (i+1)=ht a i+1:=by rw[M5 b];unfold sg;rw[aU d]
 have x:=Iz m.c;have y:=m.d.J;refine⟨by rw[HK m.c b,FU d], .a oZ b d oZ (λk B G=>?_) (m.d.Z oZ),m.b,λk hk=>?_⟩
 .have:k=i+1:=by lia
  subst this;lia
 .by_cases e:k=i
  .subst e;exact .inl aG
  .rcases m.e k (by lia)with z|z
   .exact .inl (aM _ z)
   .exact .inr z
def MI.ld{ws:gk}{i:Nat}(m:MI a i st (w::ws) xs):∃c r,a[w]? =ae c/\c∈qP/\st=qQ c::r/\w<i:=by
 have h:=m.d
 cases h with
 |a b d e j x y=>exact⟨_,_,d,e,rfl,b⟩
theorem MI.J{r:gk}{ws:gk}{i:Nat}(m:MI a i (c::r) (w::ws) xs)(d:a[i]? =ae c)(e:c∉qP):MI a (i+1) r ws ((xs.set w (.a i)).set i (.a w)):=by
 have M:ht a (i+1)=ht a i-1:=by rw[M5 d];unfold sg;rw[aP e];lia
 have B:=Iz m.c;have G:=m.d.J;have j:i<a.length:=(aR.mp d).1;have h:=m.d
 cases h with
 |a H P Q R I J=>
  simp only[aJ]at B G;have x:Pr a w i:=⟨H,j,by lia,I⟩;have b:=m.b;refine⟨?_,J.Z oZ,by simp[m.b],λk hk=>?_⟩
  .rw[HK m.c d];exact Gv e r
  .by_cases L:k=i
   .subst L;exact .inr ⟨w,by simp[b,j], .inr x⟩
   .by_cases y:k=w
    .subst y;refine .inr ⟨i,?_, .inl x⟩;rw[cm oZ,fx oZ]
    .rcases m.e k (by lia)with z|⟨p,z,q⟩
     .rcases aL.mp z with z|z
      .exact absurd z y
      .exact .inl z
     .exact .inr ⟨p,by rw[cm oZ,cm oZ];exact z,q⟩
def MI.mp{ws:gk}(m:MI a a.length [] ws xs):IsPart a xs:=by
 have h:=m.d
 cases h
 refine⟨m.b,λk hk=>?_⟩;rcases m.e k hk with z|z
 .cases z
 .exact z
theorem K0:∀ {b:gr},b.all BB=aw->qT b b=aw
 |[],_=>rfl
 |x::b,h=>by
  rw[gM,aW]at h;show(rM x x&&qT b b)=aw;rw[K0 h.2,Bool.and_true]
  cases x<;>first|rfl|(exact absurd h.1 av)|exact f7 _
def CJ:List String:=["NoneType","bool","int","str","list","tuple","dict"]
inductive ue(K:aB):Type
 |mk (x T:_) (_:vs=[x]) (_:pQ K H x (.type T)) (_:T∈CJ) (_:Q (.c (decide (T="int"))) H)
def KM(q:Q (.c aw) H):ue K ([.a i]++[]) H Q E:=⟨.a i,"int",rfl, .a i,by decide,q⟩
inductive uq:Type
 |mk (k:_) (_:vs=[.a k]) (_:1<=k) (_:k<=4) (_:Q .d H)
def Kn{k:Int}(b:1<=k)(d:k<=4)(q:Q .d H):uq ([.a k]++[]) H Q E:=⟨k,rfl,b,d,q⟩
def sgn(k:Int):gk:=qP.take k.toNat++cls.take k.toNat++[63]
def AR(k:Int)(a:gk):Bool:=decide (a.length<=40)&&a.all λc=>decide (c∈sgn k)
inductive vd(K:aB):Type
 |mk (k x:_) (_:vs=[.a k,x]) (_:1<=k) (_:k<=4) (_:((∃a,x=tx a/\a.length<=1000/\∀H',pj H H'->Q (.c (AR k a)) H')\/(∃T,pQ K H x (.type T)/\T∈CJ/\T≠"str"/\Q (.c au) H)))
def Lk{k:Int}(d:1<=k)(e:k<=4)(i:a.length<=1000)(q:∀b,pj H b->Q (.c (AR k a)) b):vd K ([.a k,tx a]++[]) H Q E:=⟨k,_,rfl,d,e, .inl ⟨a,rfl,i,q⟩⟩
inductive rb:Type
 |mk (k a:_) (_:vs=[.a k,tx a]) (_:1<=k) (_:k<=4) (_:AR k a=aw) (_:∀H',pj H H'->Q .d H')
def Bs{k:Int}(d:1<=k)(e:k<=4)(i:AR k a=aw)(q:∀b,pj H b->Q .d b):rb ([.a k,tx a]++[]) H Q E:=⟨k,a,rfl,d,e,i,q⟩
instance (a:gk):Decidable (Rt a):=by unfold Rt;infer_instance
inductive si:Type
 |mk (a:_) (_:vs=[tx a]) (_:a.length<=40) (_:(Rt a->∀r xs H',H r=none->pj H H'->H' r=ae (.a xs)->IsPart a xs->Q (.b r) H')) (_:(¬Rt a->∀H',pj H H'->Q .d H'))
def Q7(e:a.length<=40)(q:Rt a->∀r d b,H r=none->pj H b->b r=ae (.a d)->IsPart a d->Q (.b r) b)(i:¬Rt a->∀b,pj H b->Q .d b):si ([tx a]++[]) H Q E:=⟨a,rfl,e,q,i⟩
inductive sV:Type
 |mk (k a:_) (_:vs=[.a k,tx a]) (_:1<=k) (_:k<=4) (_:AR k a=aw) (_:∀H',pj H H'->Q (.c (decide (Rt a))) H')
def Gk{k:Int}(d:1<=k)(e:k<=4)(i:AR k a=aw)(q:∀b,pj H b->Q (.c (decide (Rt a))) b):sV ([.a k,tx a]++[]) H Q E:=⟨k,a,rfl,d,e,i,q⟩
inductive uo(K:aB):Type
 |mk (a:ay) (ns:hO) (_:vs=[.b a]) (_:pq K H a (ns.map V.a)) (_:ns.length<=63) (_:∀H',Q (.c aw) H')
def Ai{k:Int}(h:AR k a=aw):a.length<=40:=by
 unfold AR at h;simp only[aW,bD]at h;exact h.1
def Jc{l:List α}{i:Nat}(h:i<=j){x:α}(b:x∈l.take i):x∈l.take j:=by
 have e:l.take i=(l.take j).take i:=by rw[List.take_take,io h]
 rw[e]at b;exact fR b
def Up{k kk:Int}(l:kk<=k)(d:a.length<=40)(h:∀c∈a,sO kk c):AR k a=aw:=by
 unfold AR;rw[aW];refine⟨be d,?_⟩;rw[a'];intro c e;refine be ?_;unfold sgn;have b:kk.toNat<=k.toNat:=by lia
 rcases h c e with z|z
 .exact cP _ (cP _ (Jc b z))
 .exact cP _ (aX _ (Jc b z))
def Bn(xs:List α){k:Int}(h:0<=k):Aq xs none (ae k)=xs.take k.toNat:=by
 unfold Aq;obtain⟨n,rfl⟩:∃n:Nat,k=n:=⟨k.toNat,by lia⟩;rw[sE,rE,fX,lZ,fb];rcases n6 n xs.length with z|z
 .rw[io z]
 .rw[mn z,dZ,dS z]
def Um(i:c∈qP):su (tx [c,d]) [tx [40,41],tx [91,93],tx [123,125],tx [60,62]]=decide (d=qQ c):=by
 have e:su (tx [c,d]) [tx [40,41],tx [91,93],tx [123,125],tx [60,62]]=(decide ([40,41]=[c,d])||(decide ([91,93]=[c,d])||(decide ([123,125]=[c,d])||(decide ([60,62]=[c,d])||false)))):=by
  unfold su;simp only[dG,l8,GB]
 rw[e];have b:c=40\/c=91\/c=123\/c=60:=by simpa[qP]using i
 rcases b with rfl|rfl|rfl|rfl<;>simp[qQ,eq_comm]
def ZS(x:α)(n:Nat):(aZ n [x]).flatten=aZ n x:=by
 induction n with
 |zero=>rfl
 |succ n b=>rw[ci,cu,b];rfl
end
section
variable{f x:ay}{g:Array nI}{b:Bool}{pins':List (ay×Obj)}{cs:List ay}{Q:Option ai->ak->Prop}{os:OsState}{s':ak}{t:TA}{a0 cdv e:ai}{E' xe:ai->ak->Prop}{E:XK}
abbrev F4:List Value:=[.type "ValueError", .type "Exception", .type "BaseException", .type "object"]
structure qm (K:aB) (C:ay):Prop where
 i:W.excIn K C F4 "ValueError.__new__"=aw
 c:W.typeIn K (.ref C)=ae (.type "type")
 a:∃cd,W.clsIn K C=ae cd
 b:W.mroIn K C (.type "BaseException")=ae aw
 g:W.mroIn K C (.type "object")=ae aw
 f:W.findIn K (.ref C) "__getattribute__"=ae (ae (.builtin "BaseException.__getattribute__"))
 d:W.findIn K (.ref C) "__getattr__"=ae none
 h:W.findIn K (.ref C) "__class__"=ae (ae (.builtin "object.__class__"))
 e:W.specialIn K (.builtin "object.__class__") "__get__"=ae (ae (.builtin "getset_descriptor.__get__"))
 j:W.takesIn K (.builtin "object.__class__")=ae aw
def ExcAt(x C:ay)(h:dg):Prop:=∃o vs,h.get? x=ae o/\o.cls= .ref C/\o.data= .fields vs
def ExcAt.J{h:dg}(e:ExcAt x C h):W.Looks M h (oG (.ref x)) (.ref C):=by
 obtain⟨o,a,b,d,_⟩:=e;exact d▸(W.Looks.ld b).andThen .now
section
variable{E:ai->ak->Prop}{s:ak}
open Builtin Builtin.ObjectAttr Builtin.Getset_descriptor in
def YW{k:ai}(Z:qm K C)(X:K.In s.heap)(e:ExcAt x C s.heap)(h:R (.ok (.ret (.ref C))) s):
 dM (aV prog w) A (.call (.builtin "getset_descriptor.__get__") ⟨[.builtin "object.__class__", .ref x,k],[]⟩) R s:=by
 obtain⟨b,d,i,j,a⟩:=s;have f:=e.J (M:=aV prog w);have c:=W.looks_mroIn (M:=aV prog w) X Z.g;refine h7 W.KF.slot_gs.plain W.KF.entry_gs (W.KF.slot_gs.check _ _ _ _ _ _ _ _ W.KF.type_class (W.KF.args_gs _ _ _) ?_);unfold dR.«getset_descriptor.__get__» descrGet;rw[W.dga_obj];refine ac (ah ?_);unfold descrGetter descrCheckInstance descrNameAndClass iS;simp only[W.KF.owner_class];repeat lk
 refine⟨lu _ bg,cD W.KF.entry_class ?_⟩;unfold dR.«object.__class__» shownTypeOf;repeat lk
 exact h
open Builtin Builtin.ObjectAttr in
def Uw{h:dg}(Z:qm K C)(X:K.In h):W.Looks M h (find (.ref x) (.ref C) "__class__") (.bind (.builtin "getset_descriptor.__get__") (.builtin "object.__class__")):=by
 have b:=W.looks_findIn (M:=M) X Z.h;have a:W.Looks M h (getOf (ae (.builtin "object.__class__"))) (ae (.builtin "getset_descriptor.__get__")):=W.looks_specialIn X Z.e;have d:=W.looks_takesIn (M:=M) X Z.j;refine b.andThen (a.andThen ?_);exact(show W.Looks M h (dataDescriptor? (ae (.builtin "object.__class__")) (ae (.builtin "getset_descriptor.__get__"))) (ae (_,_))from d.andThen .now).andThen (W.Looks.tag .now)
def YX{h:dg}{d:Drawn}{t:Nat}{k:Tok}(Z:qm K C)(X:K.In h)(e:ExcAt x C h)(y:R (.ok (.ret (.ref C))) ⟨h,g,d,t,os⟩):
 dM (aV prog w) A (.call (.builtin "BaseException.__getattribute__") ⟨[.ref x, .str "__class__" k],[]⟩) R ⟨h,g,d,t,os⟩:=by
 have j:=e.J (M:=aV prog w);have z:=Uw (x:=x) (M:=aV prog w) Z X;have l:=W.looks_mroIn (M:=aV prog w) X Z.b;have hk:builtinKind "BaseException.__getattribute__"=ae .slot:=by decide +kernel
 have b:splitId "BaseException.__getattribute__"=ae ("BaseException","__getattribute__"):=by decide +kernel
 have B:=F.args_bexc_ga (.ref x) (.str "__class__" k);refine h7 F.attr_ValueError.ga.plain F.entry_bexc_ga ?_;simp only[mj,hk,b];refine ac ?_;unfold iS;refine ac (j.at (l.at ?_));simp only[lv,eJ,gX];have c:aO (aV prog w) A.in1 (dR.«object.__getattribute__» ⟨[.ref x, .str "__class__" k],[]⟩) (λa i=>match a with| .done f=>R (.ok f) i| .again c'=>c'.quiet=aw/\dM (aV prog w) A c' R i)
  (λe i=>R (.error e) i) ⟨h,g,d,t,os⟩:=by
  refine ac (ah (ac (ah (ac (j.at (ac (z.at ?_)))))));show aO _ _ (gQ [_] (call (.builtin "getset_descriptor.__get__") [.builtin "object.__class__", .ref x, .ref C])>>=ret) _ _ _;exact ac (cJ (gb (YW (s:=⟨h,g,d,t,os⟩) Z X e (ah y))))
 repeat(any_goals(first|assumption|wp_step))
def TF(Z:qm K C)(X:K.In s.heap)(e:ExcAt x C s.heap)(h:Q (ae (.ref C)) {s with toks:=s.toks+1}):aO (aV prog w) A (getAttr? (.ref x) "__class__") Q E s:=by
 obtain⟨z,g,d,t,c⟩:=s;have i:=e.J (M:=aV prog w);have j:=W.looks_findIn (M:=aV prog w) X Z.f;have a:=W.looks_findIn (M:=aV prog w) X Z.d;have y:=F.attr_ValueError.ga.bind (.ref x);have b:(kY "BaseException.__getattribute__"==kY "object.__getattribute__")=au:=by decide +kernel
 unfold getAttr? getAttrBy? getAttrBy;refine ac (wpAny_mkText (ac (d5 (cJ (ac (i.at (ac (j.at ?_))))))))
 dsimp only
 rw[aP (by rw[b];simp)];unfold getAttrByItsOwn hookBefore callGetattribute boundAndCalled;refine ac (a.at (ac (d5 (cJ ?_))));rw[aP b'];rw[y];refine ac (ah (gb (YX Z X e ?_)));exact W.handed_on rfl (ah h)
set_option tactic.hygienic true in
def HV(Z:qm K C):W.KitX K (.ref x) (.ref C) (ExcAt x C) where
 ty:=λ_ _ _ e=>e.J
 it:=λ_ _ X _=>by
  obtain⟨j,b⟩:=Z.a;unfold W.clsIn at b
  split at b
  .rename_i d
   intro z B G H k q;unfold isType loadHead;exact ac (ko (k _ _ (X _ _ d)) (ah q))
  .cases b
 ne:=λh a c y n I X i=>by
  obtain⟨j,b⟩:=Z.a;refine Bool.eq_false_iff.mpr λq=>?_;have e:C=a:=Value.ref.inj (bP.mp q);subst e;unfold W.clsIn at b
  split at b
  .rename_i d
   exact nomatch (X _ _ d).symm.trans i
  .cases b
 ca:=λX e k=>TF Z X e k
end
def BM(h:Obj)(x C:ay):HO:= .e h (.h (ExcAt x C))
def pE.Z{h:dg}{a:ay}{o:HO}(x:pE P w H h a o):∃c,h.get? a=ae c:=by
 cases o with
 |a b=>obtain⟨_,_,_,_,e⟩:=x;exact⟨_,e⟩
 |b b=>obtain⟨_,_,_,_,e,_⟩:=x;exact⟨_,e⟩
 |d g=>obtain⟨_,_,_,_,_,_,_,e,_⟩:=x;exact⟨_,e⟩
 |g g=>obtain⟨_,_,_,_,_,_,_,e,_⟩:=x;exact⟨_,e⟩
 |i S n=>obtain⟨_,_,_,_,e,_⟩:=x;exact⟨_,e⟩
 |c C d i=>obtain⟨_,_,_,e,_⟩:=x;exact⟨_,e⟩
 |f y=>exact x
 |m i=>obtain⟨_,⟨_,_,_,e,_⟩,_⟩:=x;exact⟨_,e⟩
 |k l m=>obtain⟨_,_,_,e⟩:=x;exact⟨_,e⟩
 |e c u=>obtain⟨e,_⟩:=x;exact⟨_,e⟩
 |l k=>exact⟨_,(show h.get? a=ae _ from x)⟩
 |j f y=>exact⟨_,(show h.get? a=ae _ from x)⟩
 |h j=>obtain⟨_,e,_⟩:=x;exact e
def YV{h:dg}{l:Obj}(g:h.get? x=ae l)(e:ExcAt x C h):pE P w H h x (BM l x C):=by
 refine⟨g,e,?_,λi j p k=>?_⟩
 .obtain⟨o,_,q,_⟩:=e;exact⟨o,q⟩
 .obtain⟨o,a,b,d⟩:=p;exact⟨o,a,k _ b,d⟩
structure qv (P:bW) (w:dh) (l:List Env) (H:Hp) (h:dg) (x C:ay) (a0:ai) (H':Hp) (B h':dg):Prop where
 a:Un (rg l) [] H H' h h'
 e:qG P w H' B
 f:∀b o,h.get? b=ae o->H b=none->b∉rg l->B.get? b=ae o
 c:∀b o,h.get? b=ae o->b∉rg l->∃o',B.get? b=ae o'
 d:l9 B l x (.ref C) a0 h'
def uB(P:bW)(w:dh):wc:=λouter H s E e b=>∃ (x C:ay) (i:ai) (d:Hp) (B:dg),e= .ref x/\b.os=s.os/\iK b.gens/\qv P w outer H s.heap x C i d B b.heap/\E (.ref C) (ae x) d
abbrev XR:=ay->ay->pz->Hp->Prop
def xk(R:XR)(O:pz):XK:=λc b d=>∃C x,c= .ref C/\b=ae x/\R C x O d
def XF(X:Cx)(R:XR)(e:ai)(b:ak):Prop:=∃ (pb:List (ay×Obj)) (a:pz) (H:Hp) (s:ak),Inv X pb a H s/\uB X.d X.w X.e H s (xk R a) e b
def XM(X:Cx)(R:XR)(e:ai)(b:ak):Prop:=∃ (pb:List (ay×Obj)) (c:pz) (H:Hp) (s:ak) (x C:ay) (a:List ai),e= .ref x/\Inv X pb c H s/\Heap.MadeExcOf s.heap b.heap x (.ref C) a/\
 b.os=s.os/\iK b.gens/\R C x c H
section
variable{l:List Env}{h h2 B:dg}
def qv.Z(q:qv P w l H h x C a0 H' B h'):h.get? x=none:=by
 cases e:h.get? x with
 |none=>rfl
 |some o=>
  by_cases d:x∈rg l
  .obtain⟨_,j,b,c⟩:=q.d.2.2.1.mem d;obtain⟨z,a,i,_,y,_⟩:=q.d.first;rw[b]at i;cases i;exact absurd y (c a)
  .obtain⟨j,b⟩:=q.c x o e d;rw[q.d.2.1]at b;cases b
def qv.ux(q:qv P w l H h x C a0 H' B h'):H' x=none:=by
 cases e:H' x with
 |none=>rfl
 |some o=>
  obtain⟨a,b⟩:=(q.e x o e).Z;rw[q.d.2.1]at b;cases b
def qv.on(q:qv P w l H h x C a0 H' B h')(m:h'.UpToSlots h2)(k:l9 B l x (.ref C) a0 h2)(s:∀b∈rg l,H b=none):qv P w l H h x C a0 H' B h2 where
 e:=q.e
 f:=q.f
 c:=q.c
 d:=k
 a:={
  i:=λb o e n d _=>k.1 b o (q.f b o e n d)
  g:=λb o e n d z=>by
   obtain⟨L,i⟩:=q.a.g b o e n d z;obtain⟨_,a,j,G⟩:=q.d.2.2.1.mem d;rw[i]at j;cases j;obtain⟨y,I⟩:=m b _ i G;exact⟨y,I⟩
  a:=q.a.a
  f:=λb o e z=>by
   by_cases d:b∈rg l
   .obtain⟨L,i⟩:=q.a.g b o e (s b d) d z;obtain⟨_,a,j,G⟩:=q.d.2.2.1.mem d;rw[i]at j;cases j;obtain⟨y,I⟩:=m b _ i G;exact⟨_,I⟩
   .obtain⟨J,i⟩:=q.c b o e d;exact⟨J,k.1 b J i⟩
  d:=q.a.d
  c:=q.a.c
  e:=q.a.e}
def qv.w9(q:qv P w l H h x C a0 H' B h'):∃f,Un (rg l) [] H (upd H' x (BM f x C)) h h'/\qG P w (upd H' x (BM f x C)) h':=by
 have m:=q.Z;have i:=q.ux;have y:∃b o,1<b/\h'.get? b=ae o:=by
  obtain⟨b,o,l,e⟩:=q.e.d;exact⟨b,o,l,q.d.1 _ _ e⟩
 obtain⟨G,g,I,p,L,_⟩:=q.d.first;refine⟨G,⟨q.a.i,q.a.g,λb o e n M=>?_,q.a.f,λb J e=>?_,λb o u e=>?_,λb k e=>?_⟩,⟨λb u e=>?_,λu e=>?_,y⟩⟩
 .rw[AG (λz=>by rw[z,m]at e;cases e)];exact q.a.a b o e n M
 .have d:=q.a.d b J e;rw[AG (AQ d i)];exact d
 .have d:=q.a.c b o u e;rw[AG (AQ d i)];exact d
 .obtain⟨a,d⟩:=q.a.e b k e;exact⟨a,by rw[AG (AQ d i)];exact d⟩
 .by_cases j:b=x
  .subst j;rw[AF]at e;cases e;exact YV I ⟨G,g,I,p,L⟩
  .rw[AG j]at e;exact(q.e b u e).J (λc v _ r=>q.d.1 c v r) (λc r=>by rw[AG (AQ r i)];exact r) λc J r=>by rw[AG (AQ r i)];exact r
 .by_cases j:bL=x
  .rw[j,AF]at e;cases e;exact⟨_,_,rfl⟩
  .rw[AG j]at e;exact q.e.c u e
end
section
variable{R:XR}
structure Cx.ap (X:Cx):Prop where
 a:X.e=X.a::X.g
 b:X.a.frame=ae X.a.locals
 c:X.k=[]
def Inv.old{O:pz}{s:ak}(I:Inv X pb O H s){b:ay}(e:X.j.heap.get? b=ae o)(d:b∉X.J):b∉rg X.e:=λz=>by
 rcases aL.mp (I.qO b z)with q|q
 .exact absurd (ax e) (by rw[q];exact Nat.not_lt.mpr I.e.d)
 .exact d q
def Inv.wo{pb:List (ay×Obj)}{O:pz}{H:Hp}{s:ak}(T:X.ap){b:ay}(d:b∈X.J):b∈rg X.e:=by
 rw[T.a];unfold rg;rw[dQ,T.b];exact aM _ d
theorem qv.J{O:pz}{s:ak}{B k:dg}(T:X.ap)(I:Inv X pb O H s)(q:qv X.d X.w X.e H s.heap x C a0 H' B k)
 (l:k.UpToSlots h') (h:l9 B X.g x (.ref C) a0 h'):qv X.d X.w X.g X.l X.j.heap x C a0 H' B h':=by
 have d:∀b:ay,b∉X.k:=λb=>by rw[T.c];simp
 have g:∀b o,X.j.heap.get? b=ae o->X.l b=none->b∉X.J->B.get? b=ae o:=λb o e n i=>q.f b o (I.b.i b o e n i (d b)) (I.b.a b o e n (d b)) (I.old e i);have c:∀b o,X.j.heap.get? b=ae o->b∉X.J->∃p,B.get? b=ae p:=λb o e i=>by
  obtain⟨f,j⟩:=I.b.f b o e (d b);exact q.c b f j (I.old e i)
 have a:∀b o,X.j.heap.get? b=ae o->X.l b=none->b∈X.J->∃z,h'.get? b=ae {o with slots:=z}:=λb o e n i=>by
  obtain⟨z,j⟩:=I.b.g b o e n i (d b);obtain⟨M,y⟩:=q.a.ap j (I.b.a b o e n (d b)) b';obtain⟨_,S,J,P⟩:=q.d.2.2.1.mem (Inv.wo (pb:=pb) (O:=O) (H:=H) (s:=s) T i);rw[y]at J;cases J;obtain⟨G,Q⟩:=l b _ y P;exact⟨G,Q⟩
 refine⟨⟨λb o e n i _=>h.1 b o (g b o e n i),λb o e n i _=>a b o e n i,λb o e n _=>?_,λb o e _=>?_,λb L e=>q.a.d b L (I.b.d b L e),λb o u e=>q.a.c b o u (I.b.c b o u e),λb m e=>?_⟩,q.e,g,c,h⟩
 .have r:=I.b.a b o e n (d b);obtain⟨f,j⟩:=I.b.f b o e (d b);exact q.a.a b f j r b'
 .by_cases i:b∈X.J
  .obtain⟨z,j⟩:=a b o e (I.e.n b i) i;exact⟨_,j⟩
  .obtain⟨f,j⟩:=c b o e i;exact⟨f,h.1 b f j⟩
 .obtain⟨v,j⟩:=I.b.e b m e;obtain⟨t,y⟩:=q.a.e b _ j;exact⟨v++t,by rw[y,lw]⟩
def Inv.xK{O:pz}{s:ak}(I:Inv X pb O H s):qG X.d X.w H (W.hideAll s.heap (rg X.e)):=by
 refine⟨?_,I.a.c,?_⟩
 rotate_left
 .obtain⟨o,_,_,e,_⟩:=I.e.f.a;refine⟨bq,o,by decide,W.hideAll_get _ (I.bk _ _ e) λz=>?_⟩;rw[(I.stack.mem z).1]at e;cases e
 exact λa o q=>(I.a a o q).J (λb u hb e=>W.hideAll_get _ e λz=>by
  have n:=I.qH b z;rcases hb with rfl|hb
  .rw[q]at n;cases n
  .rw[hb]at n;cases n) (λ_ z=>z) λ_ _ z=>z
def R5(T:X.ap)(h:XF X R e s'):
 aO (aV X.d X.w) X.A (leaving X.a e) (λ_ d=>uB X.d X.w X.g X.l X.j (λc i b=>∃C x O,c= .ref C/\i=ae x/\R C x O b) e d) E' s':=by
 obtain⟨l,O,H,s,I,x,C,j,b,B,rfl,g,a,q,y,z,G,J,r⟩:=h;refine wpAny_leaves_onW (by rw[I.e.e,T.a]) T.b (by rw[<-T.a];exact q.d) λL k f=>?_;exact⟨x,_,j,b,B,rfl,g.trans I.n,a,q.J T I f k,y,z,O,G,J,r⟩
def R4(T:X.ap)(h:XM X R e s'):
 aO (aV X.d X.w) X.A (leaving X.a e) (λ_ J=>uB X.d X.w X.g X.l X.j (λc L M=>∃C x O,c= .ref C/\L=ae x/\R C x O M) e J) E' s':=by
 obtain⟨D,O,H,s,x,C,u,rfl,I,p,E,g,r⟩:=h;have i:∀b:ay,b∉X.k:=λb=>by rw[T.c];simp
 have y:∀env∈(X.a::X.g),∀b,env.frame=ae b->b∈rg X.e:=λenv P b d=>by rw[T.a];exact gJ.mpr ⟨env,P,d⟩
 refine wpAny_leaves_madeW (base:=W.hideAll s.heap (rg X.e)) (h:=s.heap) (by rw[I.e.e,T.a]) T.b (λb o q=>W.of_hideAll _ q) (W.funFrames_hide (by rw[<-T.a];exact I.stack) y) p λQ t l _ _ v=>?_;have m:∀b o,X.j.heap.get? b=ae o->X.l b=none->b∉X.J->(W.hideAll s.heap (rg X.e)).get? b=ae o:=λb o e n d=>W.hideAll_get _ (I.b.i b o e n d (i b)) (I.old e d);have f:∀b o,X.j.heap.get? b=ae o->b∉X.J->∃K,(W.hideAll s.heap (rg X.e)).get? b=ae K:=λb o e d=>by
  obtain⟨k,j⟩:=I.b.f b o e (i b);exact⟨k,W.hideAll_get _ j (I.old e d)⟩
 have a:∀b o,X.j.heap.get? b=ae o->X.l b=none->b∈X.J->∃z,Q.get? b=ae {o with slots:=z}:=λb o e n d=>by
  obtain⟨z,j⟩:=I.b.g b o e n d (i b);obtain⟨_,Y,G,S⟩:=I.stack.mem (Inv.wo (pb:=D) (O:=O) (H:=H) (s:=s) T d);rw[j]at G;cases G;obtain⟨B,U⟩:=v b _ (p.keeps _ _ j) S;exact⟨B,U⟩
 refine⟨x,C,_,H,_,rfl,E.trans I.n,g,⟨⟨λb o e n d _=>l.1 b o (m b o e n d),λb o e n d _=>a b o e n d,λb o e n _=>I.b.a b o e n (i b),λb o e _=>?_,I.b.d,I.b.c,I.b.e⟩,I.xK,m,f,l⟩,C,x,O,rfl,rfl,r⟩
 by_cases d:b∈X.J
 .obtain⟨z,j⟩:=a b o e (I.e.n b d) d;exact⟨_,j⟩
 .obtain⟨k,j⟩:=f b o e d;exact⟨k,l.1 b k j⟩
end
set_option tactic.hygienic true in
def WU{h:dg}(X:K.In h)(q:W.excIn K C F4 "ValueError.__new__"=aw):
 ∃bm N G H bs i I sub J d dd x k1 y z B M,h.get? C=ae (excClassObj G H C N bs bm i I sub J d dd x k1 y z B "ValueError.__new__")/\h.Ns N M/\M "__init__"=none/\OwnTail h F4 bm:=by
 unfold W.excIn at q
 split at q
 .rename_i dd Q L R
  split at q
  .rename_i Y bm x k1 y z n B P S
   simp only[aW,bP,lS]at q;obtain⟨⟨⟨⟨⟨rfl,rfl⟩,b⟩,f⟩,a⟩,j⟩:=q;obtain⟨G,bs,T,c,H,g,I,sub,J,d,U⟩:=Q
   dsimp only at P b a j;subst P b
   obtain⟨L⟩:=L;have e:L=[x,k1,y,z,ae (.builtin "ValueError.__new__"),B]:=S;subst e;exact⟨bm,c,G,H,bs,g,I,sub,J,d,dd,x,k1,y,z,B,_,X _ _ R, .of_isNs (W.isNs_of_in X a),W.nsMap_none_of_in X a j,W.tail_of_in X f⟩
  .cases q
 .cases q
section
variable{R:XR}{x:Str}{e:dH}{np cpos pos p:Pos}
def NN(C:ay)(R:XR)(t:TA):TS:=λ_ a H=>t a H λvs b=>vs.length<=sizeLine/\∀y,b y=none->R C y a b
def DR(Z:qm X.K C)(J:X.h x=ae (.ref C))(L:X.A.handled=none)(M:∀e j,XM X R e j->X.xe e j)(P:PA X (e::es) t)(hg:Gl X x<|>n')(hd:qq x<|>pu)
 (z:qr X e es<|>n') (d:(dN cpos (aI es X.a)).any (·.1)=au<|>n'):
 PS X (.Raise (ae (.Call (.Name x np) (e::es) [] cpos)) none pos) (NN C R t):=by
 intro k s g H D I h;obtain⟨bm,N,n,Q,bs,a,m,c,ab,f,dd,V,O,E,v,u,p,S,T,i,l⟩:=WU I.e.f.b Z.i;refine wpAny_Raise_call_subU (C:=C) (nm:=n) (q:=Q) (N:=N) (bs:=bs) (bm:=bm) (hdct:=a) (sn:=m) (sub:=c) (ab:=ab) (col:=f) (dd:=dd) (k0:=V) (k1:=O) (k2:=E) (k3:=v) (k5:=u)
  F.excBase_ValueError rfl F.excBase_ValueError (mN:=p) (l.hasType F.excBase_ValueError.hasBase) L ?_ i (DD I hg J ⟨rfl,?_⟩ hd)
 .rw[z];show(au||(dN cpos (aI es X.a)).any (·.1))=au;rw[d];rfl
 .have w:=P cpos k s g H _ I h;rw[z]at w⊢;refine eR (pB w λU Y ⟨vs,B,b,rv,hl,r⟩=>⟨rfl,by show U.length<=_;rw[<-rv.J];exact hl,b.bk _ _ S,T.keeps b.bk,l.keeps b.bk,λh' y mk=>M _ _ ?_⟩);refine⟨k,g,B,Y,y,C,_,rfl,b,mk,rfl,b.d,r y ?_⟩
  cases q:B y with
  |none=>rfl
  |some o=>
   obtain⟨ob,G⟩:=(b.a y o q).Z;rw[mk.new]at G;cases G
structure xg (P:bW) (w:dh) (K:aB) (mg:Str->Option ai) (base:dg) (k:Nat) (x:Str) (ps:hE) (sp:Sp):Prop where
 a:∃f fd,pV P w K mg base (uB P w) k f fd ps sp/\mg x=ae (.ref f)/\W.keepIn K (.ref f)=aw/\Binds K fd ps []
def NT(sp:Sp)(R:XR)(t:TA):TE:=λa H Q=>t a H λvs b=>sp vs b Q (xk R a)
def Aa{k:Nat}{ps:hE}(U:xg X.d X.w X.K X.h X.f k x ps sp)(L:pM k X.A)(M:∀e j,XF X R e j->X.xe e j)(P:PA X (e::es) t)(m:Gl X x<|>n')
 (y:qq x<|>pu) (S:qr X e es<|>n') (B:(dN pos (aI es X.a)).any (·.1)=au<|>n'):
 PE X (.Call (.Name x p) (e::es) [] pos) (NT sp R t):=by
 obtain⟨f,o,F,T,hk,Y⟩:=U.a;intro g s a H Q I h;refine cF (DD I m T ?_ y);refine W.callWith_K (h₀:=X.f) I.e.f.b hk (zQ (P pos g s a H _ I h) λi G l J b r q=>⟨b.qB,?_⟩) S B;have Z:i.length=ps.length:=by rw[<-r.J];exact F.b _ _ _ _ q
 refine gb (dB (F.a X.A X.e G J ⟨i,[]⟩ i l Q (xk R a) L b.uQ ?_ r q) λc j d=>?_)
 .have z:=Y G i b.qB (by rw[cT];exact Z);rw[cT]at z;exact z
 .cases c with
  |error v=>exact M _ _ ⟨g,a,J,G,b,d⟩
  |ok n=>
   cases n with
   |ret u=>exact b.after d
   |next=>exact bH d
   |brk=>exact bH d
   |cont=>exact bH d
end
def xY(E:XK):XR:=λC x _ b=>E (.ref C) (ae x) b
abbrev w6(P:bW)(w:dh)(K:aB)(m:Str->Option ai)(base:dg)(N:hE)(k:Str)(st:kh)(f:ay)(l:ai)(A:fL)(h:List Env)(s:ak)(H:Hp)(E:XK):Cx:=
 Cj (uB P w) P w K m base N k (AX st) f l A h s H E
def NC{N:hE}{s:ak}:(w6 P w K mg base N qual st f cdv A outer s H E).ap:=⟨rfl,rfl,rfl⟩
def L5{l:List Env}{s:ak}{E':XK}(h:uB P w l H s E e s')(k:∀c x b,E c x b->E' c x b):uB P w l H s E' e s':=by
 obtain⟨x,C,d,b,B,i,j,y,q,r⟩:=h;exact⟨x,C,d,b,B,i,j,y,q,k _ _ _ r⟩
def A5{N:hE}{s:ak}(e:ai)(k:ak)
 (h:XF (w6 P w K mg base N qual st f cdv A outer s H E) (xY E) e k):(w6 P w K mg base N qual st f cdv A outer s H E).xe e k:=
 bi (R5 (E':=λ_ _=>False) NC h) (λ_ _ q=>L5 q λc x i ⟨C,y,a,b,d,r⟩=>by subst b;subst d;exact r) λ_ _ z=>z.elim
def Dc{N:hE}{s:ak}(e:ai)(k:ak)
 (h:XM (w6 P w K mg base N qual st f cdv A outer s H E) (xY E) e k):(w6 P w K mg base N qual st f cdv A outer s H E).xe e k:=
 bi (R4 (E':=λ_ _=>False) NC h) (λ_ _ q=>L5 q λc x i ⟨C,y,a,b,d,r⟩=>by subst b;subst d;exact r) λ_ _ z=>z.elim
def tZ.y0{x:Str}{N ps:hE}{k:Nat}(F:tZ K x qual st f fd)(S:pR N ps (AX st))(h:∀vs H Q E,sp vs H Q E->vs.length=ps.length)
 (d:∀ (b:ai) (A:fL) (outer:List Env) (s:ak) (H:Hp) (vs:gr) (Q:VK) (E:XK),pM k (A.deeper (iU qual (AX st) s.1.1.size f b))->sp vs H Q E->
   ∃t,rm (w6 P w K mg base N qual st f b A outer s H E) (Bv st) t/\t {nx:=λ_ j=>Q .d j,a:=Q} (start N vs) H):pV P w K mg base (uB P w) (k+1) f fd ps sp:=by
 obtain⟨I,J,a,y,L,M,b,c,z,rfl,B,e⟩:=F.a;exact Od B e S h λA outer s H vs Q E G i=>d b A outer s H vs Q E G i
section
variable{E:ai->ak->Prop}{CR:ay}
set_option tactic.hygienic true in
def Uv{h:dg}(Z:qm K C)(X:K.In h):W.Looks M h (isType (.ref C)) true:=by
 obtain⟨e,b⟩:=Z.a;unfold W.clsIn at b
 split at b
 .rename_i d
  intro i j y z k q;unfold isType loadHead;exact ac (ko (k _ _ (X _ _ d)) (ah q))
 .cases b
def RA{s:ak}{Q:Bool->ak->Prop}(ZR:qm K CR)(X:K.In s.heap)(i:W.mroIn K C (.ref CR)=ae b)(e:ExcAt x C s.heap)(h:Q b s):aO M A (excMatches (.ref x) (.ref CR)) Q E s:=by
 obtain⟨G,g,d,H,c⟩:=s;have j:=e.J (M:=M);have y:=W.looks_typeIn (M:=M) X ZR.c;have a:=Uv (M:=M) ZR X;have z:=W.looks_mroIn (M:=M) X ZR.b;have B:=W.looks_mroIn (M:=M) X i;have f:=tc_notTuple;unfold excMatches iS;refine ac (ac (y.at ?_));rw[f];refine ah ?_;simp only[eJ,gX];refine ac (ah ?_);rw[eZ];unfold isExcClass;refine ac (ac (ac (ac (a.at ?_))));simp only[gG];refine z.at ?_;simp only[lv,eJ,gX];refine ah ?_;refine ah (ac (j.at ?_));rw[eZ];refine ac (ac (ac (B.at ?_)))
 cases b with
 |true=>
  simp only[gG];exact ah (ah (ah h))
 |false=>
  simp only[eJ,gX];exact ah (ah (ah h))
end
abbrev Cx.ld(X:Cx)(e:ai):Cx:={X with A:=X.A.mark (ae e),calm:=au,xe:=λ_ _=>False}
abbrev Cx.qM(X:Cx)(k:List (ay×Obj))(h:ai->ak->Prop):Cx:={X with pn:=k,xe:=h}
section
variable{O:pz}{s:ak}
def Cx.Z.J(ok:X.Z)(e:ai):(X.ld e).Z:=
 ⟨ok.f,ok.a,ok.g,ok.l,ok.d,ok.q,ok.r,ok.p,λz=>(nomatch z),ok.e,ok.m,ok.t,ok.v,ok.h,ok.i,ok.j,ok.u,ok.n⟩
def Inv.held(I:Inv X pb O H s)(e:ai):Inv (X.ld e) pb O H s:=⟨I.e.J e,I.n,I.d,I.b,I.j,I.h,I.g,I.f,I.k,I.a,I.l⟩
def Inv.wI(h:X.Z)(I:Inv (X.ld e) pb O H s):Inv X pb O H s:=⟨h,I.n,I.d,I.b,I.j,I.h,I.g,I.f,I.k,I.a,I.l⟩
theorem Cx.Z.qM(ok:X.Z)(k:List (ay×Obj))(h:ai->ak->Prop):(X.qM k h).Z:=
 ⟨ok.f,ok.a,ok.g,ok.l,ok.d,ok.q,ok.r,ok.p,ok.k,ok.e,ok.m,ok.t,ok.v,ok.h,ok.i,ok.j,ok.u,ok.n⟩
theorem Inv.qM(I:Inv X pb O H s)(h:ai->ak->Prop):Inv (X.qM (X.pn++pb) h) [] O H s:=
 ⟨I.e.qM _ _,I.n,I.d,I.b,I.j,I.h,I.g,I.f,λp b=>I.k p (by simpa using b),I.a,I.l⟩
def Inv.qx(h:X.Z)(I:Inv (X.qM (X.pn++pb) xe) pins' O H s):Inv X pb O H s:=
 ⟨h,I.n,I.d,I.b,I.j,I.h,I.g,I.f,λp b=>I.k p (cP _ b),I.a,I.l⟩
theorem SP.Z{f:Flow}(k:X.Z)(h:SP (X.qM (X.pn++pb) xe) [] D f s):SP X pb D f s:=by
 cases f with
 |next=>obtain⟨a,b,I,q⟩:=h;exact⟨a,b,I.qx k,q⟩
 |brk=>obtain⟨a,b,I,q⟩:=h;exact⟨a,b,I.qx k,q⟩
 |cont=>obtain⟨a,b,I,q⟩:=h;exact⟨a,b,I.qx k,q⟩
 |ret u=>obtain⟨v,a,b,I,r,q⟩:=h;exact⟨v,a,b,I.qx k,r,q⟩
def Inv.gone{n:Str}{v:Option ai}{m:Str->Option ai}{h:Nat}(I:Inv X pb O H s)(U:X.N.Nodup)(σ:X.N[i]? =ae n)
 (Y:∀ (i:Nat) (x:Str) (v:V),X.N[i]? =ae x->O[i]? =ae (ae v)->xa X.a.scope x->∃u,RelV v u/\Look X.a s.heap m x u)
 (Z:h'.Ns X.a.locals (λx=>if x=n then v else m x)) (G:bC X.a.locals s.heap h'):Inv X pb (O.set i none) H {s with heap:=h',toks:=h}:=by
 have B:∀b o,X.j.heap.get? b=ae o->b≠X.a.locals:=λb o e=>aT (aQ (ax e) I.e.d);have R:∀b u,H b=ae u->b≠X.a.locals:=λb u e z=>by rw[z,I.g]at e;cases e
 refine⟨I.e,I.n,I.d,⟨λb o e q P M=>?_,λb o e q P M=>?_,I.b.a,λb o e M=>?_,I.b.d,I.b.c,I.b.e⟩,⟨_,Z,λj y w J L A=>?_⟩,λy c e=>?_,I.g,I.f,λp hp=>?_,⟨λb u e=>?_,I.a.c,let⟨o,_,_,e,_⟩:=I.e.f.a;⟨bq,o,by decide,(G.2 _ (B _ o (I.e.v _ _ e).1)).trans (I.bk _ _ e)⟩⟩,by simpa using I.l⟩
 .exact(G.2 b (B b o e)).trans (I.b.i b o e q P M)
 .obtain⟨f,J⟩:=I.b.g b o e q P M;exact⟨f,(G.2 b (B b o e)).trans J⟩
 .obtain⟨g,J⟩:=I.b.f b o e M;exact⟨g,(G.2 b (B b o e)).trans J⟩
 .have S:j≠i:=λz=>by
   subst z
   by_cases Q:j<O.length
   .rw[fx Q]at L;cases L
   .rw[b8 (by rw[jW];lia)]at L;cases L
  rw[cm (cV S)]at L;obtain⟨u,r,q⟩:=Y j y w J L A;refine⟨u,r,?_⟩;have l:y≠n:=λz=>S (HQ U J (z▸σ));rcases q with⟨k,e⟩|⟨k,c,e,z⟩
  .exact .inl ⟨k,by show(if y=n then v else m y)=ae u;rw[aP l];exact e⟩
  .exact .inr ⟨k,c,e,z.sameBut G (I.v9 y c e)⟩
 .obtain⟨T,z⟩:=I.h y c e;exact⟨T,z.sameBut G (I.v9 y c e)⟩
 .obtain⟨e,q,a,t,d⟩:=I.k p hp;exact⟨(G.2 p.1 a).trans e,q,a,t,d⟩
 .refine(I.a b u e).J (λc T hc r=>(G.2 c ?_).trans r) (λ_ z=>z) λ_ _ z=>z;rcases hc with rfl|hc
  .exact R _ _ e
  .exact R _ _ hc
end
section
variable{cn en:Str}{CR:ay}{body suite:List kh}{b₀:kh}{np hpos pos:Pos}{tb:XR->TS}{ts:TS}
def Fs(i:Nat)(D:Ends):Ends:={nx:=λa H=>D.nx (a.set i none) H,a:=D.a,c:=λa H=>D.c (a.set i none) H,b:=λa H=>D.b (a.set i none) H}
def Oq(K:aB)(i:Nat)(l:ay)(k:XR->TS)(h:TS):TS:=λD c H=>
 k (λC x a b=>W.mroIn K C (.ref l)=ae aw/\∀d,h (Fs i D) (a.set i (ae (.b x))) (upd b x (BM d x C))) D c H
def Nd(ZR:qm X.K CR)(hm:X.h cn=ae (.ref CR))(T:X.ap)(hN:X.N.Nodup)(hi:X.N[i]? =ae en)(Y:X.a.scope.names.lookup en=ae .local)
 (hb:∀ (pn:List (ay×Obj)) (xe:ai->ak->Prop) (R:XR),(∀e s',XF (X.qM pn xe) R e s'->xe e s')->rm (X.qM pn xe) body (tb R))
 (hs:∀e:ai,rm (X.ld e) (b₀::suite) ts) (hg:Gl X cn<|>n') (hd:qq cn<|>pu):
 PS X (.Try body [.ExceptHandler (ae (.Name cn np)) (ae en) (b₀::suite) hpos] [] [] pos) (Oq X.K i CR tb ts):=by
 intro c s O H D I h;refine wpAny_Try_except ?_;refine bi (hb (X.pn++c) _ _ (λe S z=>?_) [] s O H D (I.qM _) h) (λf S q=>?_) λe S z=>z
 .obtain⟨Z,n,H1,a4,M,x,C,a0,H',B,rfl,os,g,q,C',x',e1,e2,Q,r⟩:=z
  cases e1;cases e2
  have M:=M.qx I.e;refine wpAny_looks_onW (by rw[I.e.e,T.a]) T.b (by rw[<-T.a];exact q.d) λh4 y E=>?_;refine wpAny_landsW y λh5 a3 t=>?_;have P:=q.on (E.trans t) (by rw[T.a];exact a3) M.qH;have I5:Inv X c n H' {S with heap:=h5}:=M.uy (ch:=[]) os P.a (P.e.Z P.d.1) g (λb z=>absurd z b');have X5:ExcAt x C h5:=by
   obtain⟨oe,vs,g1,g2,g3,_⟩:=P.d.first;exact⟨oe,vs,g1,g2,g3⟩
  refine wpAny_handleBy_cons (codeAny_handlers_test (DD (X:=X.ld (.ref x)) (I5.held _) hg hm ?_ hd)) (by intro z;cases z);refine RA ZR I5.qB Q X5 ?_;refine codeAny_handlers_suite_as ?_;refine lands_againW (base:=B) (l:=X.a::X.g) (by rw[<-T.a];exact P.d) λh6 a2 p=>?_;have q6:=P.on p (by rw[T.a];exact a2) M.qH;obtain⟨ob,c6⟩:=q6.w9;have I6:Inv X c n (upd H' x (BM ob x C)) {S with heap:=h6}:=M.uy (ch:=[]) os c6.1 c6.2 g (λb z=>absurd z b');refine FV (X:=X.ld (.ref x)) (I6.held _) hN hi (.inl Y) (v:= .b x) rfl (λs7 I7=>?_) (.inr Y);refine bi (hs (.ref x) c s7 _ _ (Fs i D) I7 (r ob)) (λf s8 U=>?_) λ_ _ z=>z.elim;have o:∀ {a:pz} {G:Hp},Inv (X.ld (.ref x)) c a G s8->(∀j,Inv X c (a.set i none) G j->SP X c D f j)->aO (aV X.d X.w) X.A (do bindName X.a en .none;unbindBehindTheSuite X.a en hpos) (λ_ j=>SP X c D f j) X.xe s8:=fun{a G} d k=>by
   have d:=d.wI I.e;obtain⟨m,hn,a1⟩:=id d.j;refine wpAny_nameGoes_keeps Y hn ?_ λh9 v V σ=>k _ (d.gone hN hi a1 V σ);rw[I.e.a];rfl
  cases f with
  |next=>obtain⟨a,G,d,J⟩:=U;exact o d λj L=>⟨_,_,L,J⟩
  |brk=>obtain⟨a,G,d,J⟩:=U;exact o d λj L=>⟨_,_,L,J⟩
  |cont=>obtain⟨a,G,d,J⟩:=U;exact o d λj L=>⟨_,_,L,J⟩
  |ret u=>obtain⟨v,a,G,d,rv,J⟩:=U;exact o d λj L=>⟨_,_,_,L,rv,J⟩
 .have q:=q.Z I.e
  cases f with
  |next=>exact gC q
  |brk=>exact q
  |cont=>exact q
  |ret u=>exact q
end
open PySem.SeqAt
def IZ{O:pz}{s:ak}{k:Obj}(I:Inv X pb O H s)(h:H x=ae (BM k x C)):ExcAt x C s.heap:=by
 obtain⟨_,p,_⟩:=(show pE X.d X.w H s.heap x (.e k (.h (ExcAt x C)))from I.a x _ h);exact p
def GH(K:aB):gr->Hp->VK->Prop:=λd H Q=>JJ K d H Q\/
 (∃x a C T b,d=[.b x, .h T]/\H x=ae (BM a x C)/\qm K C/\W.kitOne K (.ref C) (.type T)=ae b/\Q (.c b) H)\/
 (∃x a C D b,d=[.b x, .b D]/\H x=ae (BM a x C)/\qm K C/\W.kitOne K (.ref C) (.ref D)=ae b/\Q (.c b) H)\/
 ∃x a C e,∃cs:List ay,∃b,d=[.b x, .b e]/\H x=ae (BM a x C)/\qm K C/\H e=ae (.b (cs.map V.b))/\W.kitAny K (.ref C) (cs.map aj)=ae b/\Q (.c b) H
theorem KP{cs:List ay}{us:List ai}(h:Vals (cs.map V.b) us):us=cs.map aj:=by
 induction cs generalizing us with
 |nil=>cases h;rfl
 |cons c cs i=>cases h with|cons r t=>rw[show _=aj _ from r,i t];rfl
theorem HF{bs:List Bool}{us:List ai}(h:Vals (bs.map V.c) us):us=bs.map eY:=by
 induction bs generalizing us with
 |nil=>cases h;rfl
 |cons c bs i=>cases h with|cons r t=>rw[show _=eY _ from r,i t];rfl
def B1(K:aB)(j:X.K=K<|>n'):pH X (.builtin "isinstance") (GH K):=by
 intro g s f H L M Q I r h;rcases h with h|⟨x,c,C,T,b,rfl,d,Z,e,q⟩|⟨x,c,C,D,b,rfl,d,Z,e,q⟩|⟨x,c,C,y,cs,b,rfl,d,Z,k,e,q⟩
 .exact Dr K j g s f H L M Q I r h
 .subst j;obtain⟨u,v,rfl,i,a⟩:=vals2 r
  cases(show u=aj x from i);cases(show v=dY T from a)
  exact W.kia_one (HV Z) I.qB (IZ I d) e (λz=>nomatch z) λB=>⟨.c b,H,I.Z _,rfl,q⟩
 .subst j;obtain⟨u,v,rfl,i,a⟩:=vals2 r
  cases(show u=aj x from i);cases(show v=aj D from a)
  exact W.kia_one (HV Z) I.qB (IZ I d) e (λz=>nomatch z) λB=>⟨.c b,H,I.Z _,rfl,q⟩
 .subst j;obtain⟨u,v,rfl,i,a⟩:=vals2 r
  cases(show u=aj x from i);cases(show v=aj y from a)
  obtain⟨_,P,a,⟨Y,l,R,S⟩,U,G,n,J⟩:=(show pE X.d X.w H s.heap y (.b (cs.map V.b))from I.a y _ k)
  dsimp only at G J;subst G;subst J
  exact W.kia_tup (HV Z) I.qB (IZ I d) U (by rw[KP a];exact e) (λz=>nomatch z) λB=>⟨.c b,H,I.Z _,rfl,q⟩
def XJ{Q:VK}{k:Obj}{T:String}(d:H x=ae (BM k x C))(Z:qm K C)(e:W.kitOne K (.ref C) (.type T)=ae b)(h:Q (.c b) H):GH K [.b x, .h T] H Q:=
 .inr (.inl ⟨x,k,C,T,b,rfl,d,Z,e,h⟩)
def CK{Q:VK}{D:ay}{k:Obj}(d:H x=ae (BM k x C))(Z:qm K C)(e:W.kitOne K (.ref C) (.ref D)=ae b)(h:Q (.c b) H):GH K [.b x, .b D] H Q:=
 .inr (.inr (.inl ⟨x,k,C,D,b,rfl,d,Z,e,h⟩))
def XI{Q:VK}{k:ay}{l:Obj}(d:H x=ae (BM l x C))(Z:qm K C)(m:H k=ae (.b (cs.map V.b)))(e:W.kitAny K (.ref C) (cs.map aj)=ae b)(h:Q (.c b) H):
 GH K [.b x, .b k] H Q:= .inr (.inr (.inr ⟨x,l,C,k,cs,b,rfl,d,Z,m,e,h⟩))
def vV:V->gr->Hp->VK->Prop:=λx vs H Q=>∃l,∃a:List Bool,∃k,x= .b l/\vs=[.c k]/\H l=ae (.a (a.map V.c))/\Q (.a (a.count k:Nat)) H
def Oe(k:Bool){bs:List Bool}{s:ak}:∀y∈bs.map eY,EqAt A s y (.bool k) (j8 k y):=λy d=>by
 obtain⟨b,_,rfl⟩:=bJ.mp d;exact EqAt.bool_bool b k
def Si:xQ X "list.count" vV:=by
 intro g s c H x f v L Q I b rv h;obtain⟨l,a,k,rfl,rfl,d,q⟩:=h
 cases b
 obtain⟨u,rfl,i⟩:=rv.Z
 cases(show u=eY k from i)
 obtain⟨z,j,n,r,M,e⟩:=I.tm d;have B:=HF r;subst B;refine dJ F.slot_list_count ⟨_,e,rfl⟩ F.entry_list_count (F.args_list_count_2 _ _) (list_countAt l _ n none #[] (.bool k) (j8 k)) ⟨e,λy G=>Oe k y (by simpa using G),?_⟩;have J:(a.map eY).toArray.toList.countP (j8 k)=a.count k:=by
  show(a.map eY).countP (j8 k)=a.count k;rw[List.countP_map,List.count]
  rfl
 rw[J];exact⟨.a (a.count k:Nat),H,I.Z _,⟨_,rfl⟩,q⟩
def vT:V->gr->Hp->VK->Prop:=λx vs H Q=>∃l,∃bs:List Bool,∃k,∃j:Nat,x= .b l/\vs=[.c k]/\H l=ae (.a (bs.map V.c))/\bs[j]? =ae k/\(∀m,m<j->bs[m]? ≠ae k)/\bs.length<=1000/\Q (.a j) H
def Km:xQ X "list.index" vT:=by
 intro f s a H x c v Y Q I G rv h;obtain⟨l,bs,k,j,rfl,rfl,J,L,b,Z,q⟩:=h
 cases G
 obtain⟨u,rfl,M⟩:=rv.Z
 cases(show u=eY k from M)
 obtain⟨z,P,n,r,g,e⟩:=I.tm J;have R:=HF r;subst R;obtain⟨d,S⟩:=aR.mp L;refine dJ F.slot_list_index ⟨_,e,rfl⟩ F.entry_list_index (F.args_list_index_2 _ _) (list_indexAt l _ n none #[] (.bool k) (j8 k) j (by simpa using d) oZ ?_ ?_) ⟨e,λy T=>Oe k y (by simpa using T),?_⟩
 .simp only[fS,mx,j8,S,f7]
 .intro m U i;have B:m<bs.length:=by simpa using U
  have:=b m i;rw[al B]at this;simp only[fS,mx,j8];exact dq.mpr λz=>this (by rw[z])
 .exact⟨.a j,H,I.Z _,⟨_,rfl⟩,q⟩
structure ri (k:Nat) (A:fL):Prop where
 b:A.depth+3*k+5<kq
 a:A.units+16*k+200<iw
 c:A.guards=ae []
def pM.h{k:Nat}(r:pM k A)(e:ai):ri k (A.mark (ae e)):=⟨r.c,r.b,r.d⟩
def ri.J{k:Nat}(r:ri (k+1) A)(env:Env):ri k (A.deeper env):=
 ⟨by have:=r.b;show A.depth+1+3*k+5<_;lia,by have:=r.a;show A.units+3+16*k+200<_;lia,by first|exact r.c|simpa[jk,gA,kN,iF,my,lD]using r.gd⟩
structure zg (P:bW) (w:dh) (K:aB) (mg:Str->Option ai) (base:dg) (k:Nat) (f:ay) (fd:ke) (ps:hE) (sp:Sp):Prop where
 a:∀vs H Q E,sp vs H Q E->vs.length=ps.length
 b:∀ (A:fL) (outer:List Env) (s:ak) (H:Hp) (args:Args) (us:List ai) (vs:gr) (Q:VK) (E:XK),ri k A->tH P w K mg base A outer s H->lT s fd args (ps.zip us)->Vals vs us->sp vs H Q E->
  dM (aV P w) A (.call (.ref f) args) (CR tI outer P w H s Q E) s
abbrev ye(P:bW)(w:dh)(K:aB)(m:Str->Option ai)(base:dg)(N:hE)(k:Str)(st:kh)(f:ay)(l:ai)(A:fL)(h:List Env)(s:ak)(H:Hp)(E:XK):Cx:=
 {(Cj tI P w K m base N k (AX st) f l A h s H E).ux with calm:=au}
def tZ.zt{x:Str}{N ps:hE}{k:Nat}(F:tZ K x qual st f fd)(S:pR N ps (AX st))(h:∀vs H Q E,sp vs H Q E->vs.length=ps.length)
 (G:∀ (d:ai) (A:fL) (outer:List Env) (s:ak) (H:Hp) (vs:gr) (Q:VK) (E:XK),ri k (A.deeper (iU qual (AX st) s.1.1.size f d))->sp vs H Q E->
   ∃t,rm (ye P w K mg base N qual st f d A outer s H E) (Bv st) t/\t {nx:=λ_ B=>Q .d B,a:=Q} (start N vs) H):zg P w K mg base (k+1) f fd ps sp:=by
 obtain⟨oc,od,kV,Y,pm,an,d,ct,Z,rfl,O,T⟩:=F.a;refine⟨h,λA outer s H p D vs Q E X i hb r R=>?_⟩;have hl:=h _ _ _ _ R;have C:K.In s.heap:=i.c.b.keeps λb o e=>(i.h b o e).1;have U:s.heap.NoLimit:=i.c.c.keeps λb o e=>(i.h b o e).1;have L:∀y∈ps.zip D,(AX st).names.lookup y.1=ae .local\/((AX st).names.lookup y.1=ae .cell/\((d8 (s.1.1.size+1) (AX st).names []).lookup y.1).isSome=aw):=λ⟨n,v⟩ hy=>by
  rcases S.f n (ip hy).1 with q|q
  .exact .inl q
  .exact .inr ⟨q,W.cellsFrom_some _ _ _ (.inl q)⟩
 refine jL (by have:=X.b;lia) (C _ _ O) rfl S.g S.d rfl (W.codeRec_of C T) (hb _ _ _ _ ?_);refine iu S.a L λa0 he g x=>?_;subst he;refine⟨U.keeps x.toInCall.keep,codeAny_func ?_⟩;obtain⟨t,ht,hq⟩:=G d A outer s H vs Q E (X.J _) R;have j:Inv (Cj tI P w K mg base N qual (AX st) f d {A with handled:=none} outer s H E) [] (start N vs) H g:=Ks S rfl ⟨i.a,i.c,i.h,i.f,i.i,i.g,i.e,i.d⟩ hl r x;have ok:=j.e;have I:Inv (ye P w K mg base N qual st f d A outer s H E) [] (start N vs) H g:=
  ⟨⟨ok.f,ok.a,ok.g,ok.l,ok.d,ok.q,ok.r,ok.p,λz=>(nomatch z),km i.a,ok.m,ok.t,ok.v,ok.h,ok.i,ok.j,ok.u,ok.n⟩,j.n,j.d,j.b,j.j,j.h,j.g,j.f,j.k,j.a,j.l⟩
 refine bi (ht [] g (start N vs) H _ I hq) (λfl l M=>?_) λe l M=>M.elim;have c:∀ {a:pz} {B:Hp} {v:V} {u:ai},Inv (ye P w K mg base N qual st f d A outer s H E) [] a B l->RelV v u->Q v B->CE outer P w H s Q u l:=
  fun{a B v u} J m q=>⟨v,B,J.n,J.d,J.b,J.a,m,q⟩
 cases fl with
 |ret u=>
  obtain⟨v,a,B,J,m,q⟩:=M;exact c J m q
 |next=>
  obtain⟨a,B,J,q⟩:=M;exact c (v:=V.d) (u:=dr) J rfl q
 |brk=>
  obtain⟨_,_,_,q⟩:=M;exact bH q
 |cont=>
  obtain⟨_,_,_,q⟩:=M;exact bH q
structure xS (P:bW) (w:dh) (K:aB) (mg:Str->Option ai) (base:dg) (k:Nat) (x:Str) (ps:hE) (sp:Sp):Prop where
 a:∃f fd,zg P w K mg base k f fd ps sp/\mg x=ae (.ref f)/\W.keepIn K (.ref f)=aw/\Binds K fd ps []
def Xz{k:Nat}{x:Str}{ps:hE}{e:dH}{p pos:Pos}(U:xS X.d X.w X.K X.h X.f k x ps sp)(J:ri k X.A)(L:PA X (e::es) t)(m:Gl X x<|>n')
 (j:qq x<|>pu) (M:qr X e es<|>n') (y:(dN pos (aI es X.a)).any (·.1)=au<|>n'):
 PE X (.Call (.Name x p) (e::es) [] pos) (D6 sp [] E0 t):=by
 obtain⟨f,o,F,P,hk,R⟩:=U.a;intro l s g H Q I h;refine cF (DD I m P ?_ j);refine W.callWith_K (h₀:=X.f) I.e.f.b hk (zQ (L pos l s g H _ I h) λd B c G i r q=>⟨i.qB,?_⟩) M y;have q:sp (c++[]) G Q E0:=q;rw[cT]at q;have S:d.length=ps.length:=by rw[<-r.J];exact F.a _ _ _ _ q
 refine gb (dB (F.b X.A X.e B G ⟨d,[]⟩ d c Q E0 J i.uQ ?_ r q) λa T b=>?_)
 .have z:=R B d i.qB (by rw[cT];exact S);rw[cT]at z;exact z
 .cases a with
  |error Y=>exact bH b
  |ok n=>
   cases n with
   |ret u=>exact i.after b
   |next=>exact bH b
   |brk=>exact bH b
   |cont=>exact bH b
end
section
open PySem.Builtin
variable{a:ay}{i:Int}{Q:Option ai->ak->Prop}{t:Tok}
def QH:Slot "reversed" "__init__" "object.__init__":=
 .of (owner:="object") (n:="__init__") (by rw[gE,d9];kernel_rfl) bg bg bg (by first|exact .inl bg|exact .inr bg) (by rw[fU];kernel_rfl)
def pT:Slot "reversed" "__next__" "reversed.__next__":=
 .of (owner:="reversed") (n:="__next__") (by rw[gE,d9];kernel_rfl) bg bg bg (by first|exact .inl bg|exact .inr bg) (by rw[fU];kernel_rfl)
def Jb:Slot "reversed" "__iter__" "reversed.__iter__":=
 .of (owner:="reversed") (n:="__iter__") (by rw[gE,d9];kernel_rfl) bg bg bg (by first|exact .inl bg|exact .inr bg) (by rw[fU];kernel_rfl)
def Ry:TypeCalled "reversed" "reversed.__new__" "object.__init__":=
 ⟨by decide +kernel,by decide +kernel,⟨_,_,F.mro_reversed⟩,F.made_reversed,by decide +kernel,by rw[fU];kernel_rfl,QH⟩
def JZ:nC table "reversed.__next__"=ae dR.«reversed.__next__»:=mi ft
def QF:nC table "reversed.__iter__"=ae dR.«dict_keyiterator.__iter__»:=
 entryFor_alias (id':="dict_keyiterator.__iter__") ft (by first|rfl|decide +kernel|(unfold String.splitOn;simp +decide [String.splitOnAux])) bg ft
def Je(a:ai):ni "reversed.__next__" ⟨[a],[]⟩:=by unfold ni;kernel_rfl
def QP(a:ai):ni "reversed.__iter__" ⟨[a],[]⟩:=by unfold ni;kernel_rfl
def Ri:na (.type "str") "__reversed__"=pure none:=by rw[gE,d9];kernel_rfl
def QQ:isSubtype (.type "str") (.type "dict")=pure false:=by rw[fU];kernel_rfl
def QN(x:Str)(t:Tok)(d:x.length<=sizeLine):
 Meets (dR.«reversed.__new__» ⟨[.type "reversed", .str x t],[]⟩) (λ_ R s=>∀b,R (.ok (.ret (.ref s.1.1.size))) {s with heap:=s.heap.push {cls:= .type "reversed",data:= .fields #[.str x t,c7 ((x.length:Int)-1)]},toks:=b}):=
 .of_wp λc w A R s h=>by
   have e:=qk;unfold dR.«reversed.__new__»;refine ac (fg (newClass_reversed _) ?_)
   try dsimp only
   refine ac (fg (a:=()) (by first|rfl|kernel_rfl) ?_);refine ac (fg (a:=()) (by first|rfl|kernel_rfl) ?_)
   try dsimp only
   refine ac (gB (dI _ _ _) Ri ?_)
   try dsimp only
   refine ac ?_;show aO _ _ (iS (cY x t) (.type "dict")>>=_) _ _ _;refine ac (fZ (dI _ _ _) QQ ?_);show aO _ _ (specialOf (cY x t) "__getitem__">>=_) _ _ _;refine ac (gB (dI _ _ _) F.slot_str_getitem.lookup ?_);refine ah ?_;show aO _ _ (call (kY "len") [cY x t]>>=_) _ _ _;refine ac (PySem.P.len_str oZ ?_);refine ac (fg (a:=ae (x.length:Int)) (by rfl) ?_);show aO _ _ (SmallTypes.newRecord (dY "reversed") [cY x t,c7 ((x.length:Int)-1)]>>=_) _ _ _;refine ac ?_;show aO _ _ (newObj (.type "reversed") (.fields [cY x t,c7 ((x.length:Int)-1)].toArray)) _ _ _;exact bX (ah ⟨_,rfl,h _⟩)
open PySem.Builtin
def qD(h:dg)(a:ay)(x:Str)(t:Tok)(i:Int):Prop:=∃o,h.get? a=ae o/\o.cls= .type "reversed"/\o.data= .fields #[.str x t,c7 i]
def qD.J{s:ak}(y:qD s.heap a x t i):s.TypeIs (.ref a) "reversed":=let⟨o,b,d,_⟩:=y;⟨o,b,d⟩
section
variable{s:ak}
def TX{Q:ai->ak->Prop}(d:x.length<=sizeLine)
 (h:∀b,Q (.ref s.1.1.size) {s with heap:=s.heap.push {cls:= .type "reversed",data:= .fields #[.str x t,c7 ((x.length:Int)-1)]},toks:=b}):
 aO (aV prog w) A (call (.type "reversed") [.str x t]) Q E s:=by
 refine callType_new Ry oY (F.typeCall_reversed_1 _) (F.newCall_reversed_1 _) (λa=>F.args_object_init_2 a _) F.entry_reversed_new (QN x t d) λb=>?_;exact⟨⟨_,aq _ rfl,rfl⟩,h b⟩
def Kq{Q:ai->ak->Prop}(y:qD s.heap a x t i)(h:Q (.ref a) s):aO (aV prog w) A (jl (.ref a)) Q E s:=by
 refine lB y.J Jb (cC Jb y.J QF ?_ (QP _));show aO _ _ (ret (.ref a)) _ _ s;exact ah ⟨_,rfl,"reversed",_,y.J,pT.lookup,h⟩
def Sf{i:Nat}(y:qD s.heap a x t (i:Int))(j:x.cps[i]? =ae c)(H:x.length<=sizeLine)
 (z:∀d B u,qD d a x t ((i:Int)-1)->bC a s.heap d->Q (ae (.str ⟨#[c]⟩ u)) {s with heap:=d,toks:=B}):aO (aV prog w) A (fA (.ref a)) Q E s:=by
 obtain⟨o,b,e,f⟩:=id y;have I:=qk;have g:i<x.cps.size:=(bF.mp j).1;have G:i<x.length:=g;unfold fA;refine ac (d5 (cz (name:=fF "__next__") y.J pT (cC pT y.J JZ ?_ (Je _))));unfold dR.«reversed.__next__»;refine ac (fg (a:=(aj a,[])) rfl ?_)
 try dsimp only
 refine ac (cO b f (x:= .str x t) rfl ?_);refine ac (cO b f (x:=c7 (i:Int)) rfl ?_);show aO _ _ (if(i:Int)<0 then _ else _) _ _ s;rw[aP oZ];show aO _ _ (specialOf (cY x t) "__getitem__">>=_) _ _ _;refine ac (gB (dI _ _ _) F.slot_str_getitem.lookup ?_);show aO _ _ (mkInt (i:Int)>>=_) _ _ _;refine ac (wpAny_mkInt ?_);refine ac (d5 ?_);refine PySem.P.getItem_str (c:=c) (by simp;lia) (by rw[kC oZ oZ];simpa using j) ?_;show aO _ _ (nU (aj a) 1>>=_) _ _ _;refine ac (cO b f (x:=c7 (i:Int)) rfl ?_);show aO _ _ (nA (aj a) 1 (c7 ((i:Int)-1))>>=_) _ _ _;refine ac (cQ b f b' (ah ⟨_,rfl,ah (z _ _ _ ?_ (cA ..))⟩));exact⟨_,bB _ b (cZ (bY f _)),(fP ..).trans e,by rw[bY f];simp⟩
def Ux(j:A.handled=none)(y:qD s.heap a x t (-1))
 (z:∀i,jh a s.heap i->Q none {s with heap:=i}):aO (aV prog w) A (fA (.ref a)) Q E s:=by
 obtain⟨o,d,B,c⟩:=id y;unfold fA;refine ac (d5 (cz (name:=fF "__next__") y.J pT (cC pT y.J JZ ?_ (Je _))));unfold dR.«reversed.__next__»;refine ac (fg (a:=(aj a,[])) rfl ?_)
 try dsimp only
 refine ac (cO d c (x:= .str x t) rfl ?_);refine ac (cO d c (x:=c7 (-1)) rfl ?_);show aO _ _ (if(-1:Int)<0 then _ else _) _ _ s;rw[aU oY];refine ac (fk ?_);refine ac ?_;show aO _ _ (nA (aj a) 1 (c7 (-1))>>=_) _ _ _;refine ac (cQ d c b' ?_);have e:=bB (ie (·.setIfInBounds 1 (c7 (-1)))) d (cZ (bY c _));refine cQ e (bY c _) b' ?_;refine ac ?_;show aO _ _ (nQ (.type "StopIteration") []>>=_) _ _ _;refine ac ?_;simp only[nQ,newTuple];refine ac (bX ?_ (by size_fits));refine ac (m:=fV _ _) (fg (a:=dr) (by first|rfl|(simp only[fV];rfl)) ?_);refine bX ?_ (by size_fits);simp only[raiseNew];refine ac (wpAny_handled ?_);rw[show A.in1.handled=none from j];refine ac (ah (wpAny_throw ?_));refine ac (fZ (T:="StopIteration") (b:=aw) ⟨_,aq _ rfl,rfl⟩ kt ?_);exact ah (z _ ((((cA ..).trans (cA ..)).extBut.push _).push _))
end
def EH(x:Str):qo:=⟨λi _=>i<x.cps.size,λi H v b=>b=H/\∃c,x.cps[x.cps.size-1-i]? =ae c/\v= .e ⟨#[c]⟩,λi _=>i=x.cps.size⟩
def R8{l:ay}(N:x.length<=sizeLine):
 Turn P w K tg (EH x) [l] l (λi h=>i<=x.cps.size/\qD h l x t ((x.cps.size:Int)-1-(i:Int))) where
 g:=by simp
 e:=λi h d b j=>by
  obtain⟨_,o,B,_,f⟩:=d;have e:b=l:=by simpa using j
  subst e;exact⟨o,B,λv z=>by rw[f]at z;cases z⟩
 a:=λi h J d k=>by
  obtain⟨a,o,B,r⟩:=d;exact⟨a,o,k l b' o B,r⟩
 c:=by
  intro X M R S Z i p s g H E I L d c;subst M R S;have a:i<x.cps.size:=c;obtain⟨_,y⟩:=d;have e:(x.cps.size:Int)-1-(i:Int)=((x.cps.size-1-i:Nat):Int):=by lia
  rw[e]at y;have G:x.cps[x.cps.size-1-i]? =ae (x.cps[x.cps.size-1-i]'(by lia)):=bj oZ;refine Sf y G N λJ m u T D=>?_;have U:((x.cps.size-1-i:Nat):Int)-1=(x.cps.size:Int)-1-((i+1:Nat):Int):=by lia
  rw[U]at T;obtain⟨o,B,Y,f⟩:=id T;have V:Inv X p g H {s with heap:=J,toks:=m}:=I.pP L λb C j q=>(D.2 b (λz=>j (by simp[z]))).trans q;exact⟨_,rfl,EA (s:={s with heap:=J,toks:=m}) (n:="reversed") B Y f oY ⟨.e ⟨#[x.cps[x.cps.size-1-i]'(by lia)]⟩,H,V,⟨u,rfl⟩,⟨rfl,_,G,rfl⟩,⟨a,T⟩,λb j=>(L b j).1⟩⟩
 d:=by
  intro X M R S Z i p s g H E I L d c;subst M R S;have e:i=x.cps.size:=c;subst e;obtain⟨_,y⟩:=d;have U:(x.cps.size:Int)-1-(x.cps.size:Int)= -1:=by lia
  rw[U]at y;exact Ux (I.e.k Z) y λJ O=>⟨rfl,I.pP (t':=s.toks) L λb C j q=>O b C (λz=>j (by simp[z])) q⟩
 f:=λA i s Q E d h=>Kq d.2 h
def PV(b:TA):TI:=λc H R=>b c H λvs d=>∃a,vs=[tx a]/\a.length<=sizeLine/\R (EH ⟨a.toArray⟩) d
def Vu{a:dH}{k:TA}{p pos:Pos}(l:Gl X "reversed")(B:X.h "reversed"=none)(G:PA X [a] k)(J:aI [a] X.a=[(au,eval a X.a)]<|>n'):PI X tg (.Call (.Name "reversed" p) [a] [] pos) (PV k):=by
 intro f s c H R I h;refine Call_ (CL I l B PyProof.Rows.boot_reversed (bN (zQ (G pos f s c H _ I h) λU d m x j L M=>?_) J rfl));obtain⟨z,e,P,q⟩:=M;subst e
 cases L with
 |cons r g=>
  cases g
  obtain⟨t,rfl⟩:=r;have i:(⟨z.toArray⟩:Str).length<=sizeLine:=by rw[BG];exact P
  refine TX i λQ=>?_;have S:Inv X f c x {d with heap:=d.heap.push {cls:= .type "reversed",data:= .fields #[.str ⟨z.toArray⟩ t,c7 (((⟨z.toArray⟩:Str).length:Int)-1)]},toks:=Q}:=j.ap λb o e=>af _ e;have y:qD (d.heap.push {cls:= .type "reversed",data:= .fields #[.str ⟨z.toArray⟩ t,c7 (((⟨z.toArray⟩:Str).length:Int)-1)]}) d.1.1.size ⟨z.toArray⟩ t ((((⟨z.toArray⟩:Str)).length:Int)-1):=⟨_,aq _ rfl,rfl,rfl⟩;refine Kq y ⟨d.1.1.size,[d.1.1.size],_,_,x,rfl,S,R8 (t:=t) i,⟨bt _,?_⟩,λb T=>?_,q⟩
  .show qD _ _ _ _ ((((⟨z.toArray⟩:Str)).cps.size:Int)-1-((0:Nat):Int));rw[show((((⟨z.toArray⟩:Str)).cps.size:Int)-1-((0:Nat):Int))=((((⟨z.toArray⟩:Str)).length:Int)-1)from by show _=(((⟨z.toArray⟩:Str).cps.size:Nat):Int)-1;lia];exact y
  .have e:b=d.1.1.size:=by simpa using T
   subst e;exact j.sJ (am _) (j.a.J (am _))
end
section
variable{xss:List gk}{R:gk->Prop}
def MP:∀ {b:List ai},Vals (xss.map tx) b->ox b (xss.map λa=>⟨a.toArray⟩):=by
 induction xss with
 |nil=>intro b r;cases r;exact .nil
 |cons a r d=>
  intro b h
  cases h with
  |cons e i=>
   obtain⟨t,rfl⟩:=e;exact .cons _ t (d i)
theorem Kp:∀ (d:List gk),k8 ⟨([]:gk).toArray⟩ (d.map λa=>⟨a.toArray⟩)=⟨d.flatten.toArray⟩
 |[]=>rfl
 |[a]=>by simp[k8]
 |a::b::r=>by
  have e:=Kp (b::r);rw[aY,aY]at*
  show(⟨a.toArray⟩:Str)++⟨([]:gk).toArray⟩++k8 ⟨([]:gk).toArray⟩ (⟨b.toArray⟩::r.map λa=>⟨a.toArray⟩)=_;rw[e];show(⟨a.toArray++([]:gk).toArray++(b::r).flatten.toArray⟩:Str)=_;simp
def rJoin(K:aB):V->gr->Hp->VK->Prop:=λx vs H Q=>∃ (p:ay) (b:List gk),x=tx []/\vs=[.b p]/\pq K H p (b.map tx)/\b.flatten.length+b.length<=1000000/\Q (tx b.flatten) H
def Dt(K:aB)(d:X.K=K<|>n'):wb X "str.join" (rJoin K):=by
 subst d;intro g s c H x f v J Q I i rv h;obtain⟨p,b,rfl,rfl,j,L,q⟩:=h;obtain⟨t,rfl⟩:=i;obtain⟨u,rfl,y⟩:=rv.Z
 cases y
 obtain⟨z,r,ht,M⟩:=I.J j;have B:((b.map λa=>(⟨a.toArray⟩:Str)).map (·.length)).sum=b.flatten.length:=by
  rw[dC,kG];congr 1
 refine join_listW ht.isList (MP r) (by rw[BG];decide) (by rw[B,az];lia) λG k=>?_;have e:Txt.join ⟨([]:gk).toArray⟩ (b.map λa=>⟨a.toArray⟩)=⟨b.flatten.toArray⟩:=by
  show lR _ _=_;rw[jO,Kp]
 rw[e];exact⟨tx b.flatten,H,I.Z k,⟨G,rfl⟩,q⟩
def ED(l:gk)(c:Nat):Option Nat:=(cc ⟨l.toArray⟩ ⟨#[c]⟩ 0 (⟨l.toArray⟩:Str).length 1).head?
def xC:V->gr->Hp->VK->Prop:=λx vs H Q=>∃l c i,x=tx l/\vs=[tx [c]]/\ED l c=ae i/\Q (.a (i:Nat)) H
def HS:wb X "str.index" xC:=by
 intro k s f H x g v y Q I d rv h;obtain⟨l,c,i,rfl,rfl,b,q⟩:=h;obtain⟨t,rfl⟩:=d;obtain⟨u,rfl,z,rfl⟩:=rv.Z;unfold ED at b
 cases e:cc ⟨l.toArray⟩ ⟨#[c]⟩ 0 (⟨l.toArray⟩:Str).length 1 with
 |nil=>rw[e]at b;cases b
 |cons j a=>
  rw[e]at b
  cases b
  exact SC.index e ⟨.a (i:Nat),H,I.Z _,⟨_,rfl⟩,q⟩
section
variable{O:pz}{Q:VK}
def Yi{P:Prop}(h:P):wJ K "str" (tx a) H/\P:=⟨rfl,h⟩
def Dv(b:pq K H p (xss.map tx))(d:xss.flatten.length+xss.length<=1000000)(h:Q (tx xss.flatten) H):rJoin K (tx []) [.b p] H Q:=⟨p,xss,rfl,rfl,b,d,h⟩
def Im{l:gk}(b:ED l c=ae i)(h:Q (.a (i:Nat)) H):xC (tx l) [tx [c]] H Q:=⟨l,c,i,rfl,rfl,b,h⟩
def XN{k:TA}{R:qo->Hp->Prop}(h:k O H λvs b=>∃a,vs=[tx a]/\a.length<=sizeLine/\R (EH ⟨a.toArray⟩) b):PV k O H R:=h
def VW(d:a.length<=sizeLine)(h:R a):∃b,[tx a]=[tx b]/\b.length<=sizeLine/\R b:=⟨a,rfl,d,h⟩
def HZ(T:a.length<=sizeLine)(h:ay->Nat->gr->Hp->Prop)(l:∀D,H D=none->h D 0 [] (upd H D (.a [])))
 (G:∀D d j,H D=none->j D=ae (.a d)->h D a.length d j->Q (.b D) j)
 (P:∀D i c d j,H D=none->a[i]? =ae c->i<a.length->j D=ae (.a d)->d.length<=i->h D i d j->g (tx [c]) (AZ own sel O) j λf R=>tt f R λb J=>
   if b=aw then te f J λv L=>∃d,L D=ae (.a d)/\d.length<sizeLine/\∃z,z<a.length-i/\CW D a.length (h D) (i+1) z (upd L D (.a (d++[v])))
   else∃z,z<a.length-i/\CW D a.length (h D) (i+1) z J):BV (tL ⟨a.toArray⟩) own sel O g tt te Q H:=by
 refine DG (n:=a.length) h l (λD i d j B k _ p=>by simpa[tL]using k) (λD d j B I M p=>⟨by simp[tL],G D d j B I p⟩) (λD i d j x S B k I M p y=>?_);obtain⟨rfl,c,e,rfl⟩:=y;exact P D i c d S B (by simpa using e) k I M p
def U0(T:a.length<=sizeLine)(h:ay->Nat->gr->Hp->Prop)(l:∀D,H D=none->h D 0 [] (upd H D (.a [])))
 (G:∀D d j,H D=none->j D=ae (.a d)->h D a.length d j->Q (.b D) j)
 (P:∀D i c d j,H D=none->a.reverse[i]? =ae c->i<a.length->j D=ae (.a d)->d.length<=i->h D i d j->g (tx [c]) (AZ own sel O) j λf R=>tt f R λb J=>
   if b=aw then te f J λv L=>∃d,L D=ae (.a d)/\d.length<sizeLine/\∃z,z<a.length-i/\CW D a.length (h D) (i+1) z (upd L D (.a (d++[v])))
   else∃z,z<a.length-i/\CW D a.length (h D) (i+1) z J):BV (EH ⟨a.toArray⟩) own sel O g tt te Q H:=by
 refine DG (n:=a.length) h l (λD i d j B k _ p=>by simpa[EH]using k) (λD d j B I M p=>⟨by simp[EH],G D d j B I p⟩) (λD i d j x S B k I M p y=>?_);obtain⟨rfl,c,e,rfl⟩:=y;refine P D i c d S B ?_ k I M p;rw[List.getElem?_reverse k];simpa using e
def Ha(R:n<=sizeLine)(h:ay->Nat->gr->Hp->Prop)(k:∀D,H D=none->h D 0 [] (upd H D (.a [])))
 (B:∀D d e,H D=none->e D=ae (.a d)->h D n d e->Q (.b D) e)
 (M:∀D i d e,H D=none->i<n->e D=ae (.a d)->d.length<=i->h D i d e->g (.a (lo+i)) (AZ own sel O) e λa P=>tt a P λb I=>
   if b=aw then te a I λv J=>∃d,J D=ae (.a d)/\d.length<sizeLine/\∃j,j<n-i/\CW D n (h D) (i+1) j (upd J D (.a (d++[v])))
   else∃j,j<n-i/\CW D n (h D) (i+1) j I):BV (uS lo n) own sel O g tt te Q H:=by
 refine DG (n:=n) h k (λD i d e z c _ p=>c) (λD d e z G L p=>⟨am _,B D d e z G p⟩) (λD i d e x S z c G L p y=>?_);obtain⟨rfl,rfl⟩:=y;exact M D i d _ z c G L p
end
end
section
variable{p:gk}
def BY(c:Nat):gk->Nat->gk
 |[],_=>[]
 |x::r,i=>if x=c then i::BY c r (i+1)else BY c r (i+1)
def MN(l:gk)(c i:Nat):i5 ⟨l.toArray⟩ ⟨#[c]⟩ i=decide (l[i]? =ae c):=by
 unfold i5;have e:(⟨l.toArray⟩:Str).cps.extract i (i+(⟨#[c]⟩:Str).length)=((l.drop i).take 1).toArray:=by
  show l.toArray.extract i (i+1)=_;simp
 rw[e];show(((l.drop i).take 1).toArray== #[c])=_;rw[fe,bP,bD];rw[List.take_one,jY]
 cases l[i]? with
 |none=>simp
 |some x=>simp
theorem IT(l:gk)(c k:Nat):∀ (r:gk) (i:Nat) (b:Array Nat) (a:Nat),l.drop i=r->a<=i->i<=l.length->
 (forIn (mR i (l.length+1-i)) (b,a) (c9 ⟨l.toArray⟩ ⟨#[c]⟩ l.length k)).run.fst.toList=b.toList++(BY c r i).take (k-b.size)
 |[],i,b,a,e,I,f=>by
  have G:i=l.length:=by
   have:=cx fj e;simp at this;lia
  subst G;rw[show l.length+1-l.length=1 by lia];have j:c9 ⟨l.toArray⟩ ⟨#[c]⟩ l.length k l.length (b,a)=pure (bG (b,a)):=by
   unfold c9;rw[aP];rintro⟨⟨_,h⟩,_⟩;have:(⟨#[c]⟩:Str).length=1:=rfl;lia
  simp[mR,j,BY]
 |x::r,i,b,a,e,I,f=>by
  have y:i<l.length:=by
   have:=cx fj e;simp at this;lia
  have J:l[i]? =ae x:=by
   have:=cx kc e;rw[jY]at this;exact this
  have B:l.drop (i+1)=r:=by
   have:=cx List.tail e;rw[m4]at this;exact this
  rw[show l.length+1-i=(l.length+1-(i+1))+1 by lia,List.range'_succ];have L:(⟨#[c]⟩:Str).length=1:=rfl
  by_cases h:(b.size<k)/\x=c
  .have j:c9 ⟨l.toArray⟩ ⟨#[c]⟩ l.length k i (b,a)=pure (bG (b.push i,i+1)):=by
    unfold c9;rw[aU ⟨⟨⟨h.1,I⟩,by rw[L];lia⟩,by rw[MN,J,h.2];simp⟩]
    rfl
   have H:=IT l c k r (i+1) (b.push i) (i+1) B (am _) y;simp only[eZ,j,pure_bind];rw[H,BY,aU h.2,gW,mZ,fQ];congr 1;rw[show k-b.size=(k-(b.size+1))+1 by lia]
   rfl
  .have j:c9 ⟨l.toArray⟩ ⟨#[c]⟩ l.length k i (b,a)=pure (bG (b,a)):=by
    unfold c9;rw[aP];rintro⟨⟨⟨M,_⟩,_⟩,d⟩;rw[MN,J]at d;exact h ⟨M,by simpa using d⟩
   have H:=IT l c k r (i+1) b a B oZ y;simp only[eZ,j,pure_bind];rw[H,BY]
   by_cases d:x=c
   .rw[aU d];have:k-b.size=0:=by
     have:¬b.size<k:=λz=>h ⟨z,d⟩;lia
    rw[this,fw,fw]
   .rw[aP d]
set_option tactic.hygienic true in
def Ms(l:gk)(c k:Nat):cc ⟨l.toArray⟩ ⟨#[c]⟩ 0 (⟨l.toArray⟩:Str).length k=(BY c l 0).take k:=by
 have h:=IT l c k l 0 #[] 0 rfl (am _) (bt _);have e:(⟨l.toArray⟩:Str).length=l.length:=by show l.toArray.size=_;simp
 rw[e];unfold cc;have b:(fun(i:Nat) (st:Array Nat×Nat)=>if(decide (st.fst.size<k)&&decide (st.snd<=i)&&decide (i+(⟨#[c]⟩:Str).length<=l.length)&&i5 ⟨l.toArray⟩ ⟨#[c]⟩ i)=aw then(pure (bG (st.fst.push i,i+(⟨#[c]⟩:Str).length)):Id _)else pure (bG (st.fst,st.snd)))=c9 ⟨l.toArray⟩ ⟨#[c]⟩ l.length k:=by
  funext i st
  unfold c9;simp only[aW,bD]
 simp only[Std.Legacy.Range.forIn_eq_forIn_range',Std.Legacy.Range.size];have d:(forIn (mR 0 (l.length+1)) (#[],0) (c9 ⟨l.toArray⟩ ⟨#[c]⟩ l.length k)).run.fst.toList=(BY c l 0).take k:=by simpa using h
 rw[<-d,<-b];simp
def Dg(x:Nat):List gk->List gk
 |w::a=>(x::w)::a
 |[]=>[[x]]
def pS(c:Nat):Nat->gk->List gk
 |_,[]=>[[]]
 |0,x::r=>[x::r]
 |n+1,x::r=>if x=c then []::pS c n r else Dg x (pS c (n+1) r)
theorem DH(c:Nat):∀ (n:Nat) (l:gk),pS c n l≠[]
 |0,[]=>by simp[pS]
 |n+1,[]=>by simp[pS]
 |0,x::r=>by simp[pS]
 |n+1,x::r=>by
  rw[pS]
  split
  .simp
  .cases e:pS c (n+1) r with
   |nil=>simp[Dg]
   |cons w a=>simp[Dg]
def xi(p:gk):List gk->List gk
 |w::a=>(p++w)::a
 |[]=>[p]
theorem IA:∀ {ws:List gk},ws≠[]->xi [] ws=ws
 |[],h=>(h rfl).elim
 |w::ws,_=>rfl
def S5{x:Nat}{ws:List gk}(h:ws≠[]):xi p (Dg x ws)=xi (p++[x]) ws:=by
 cases ws with
 |nil=>exact(h rfl).elim
 |cons w ws=>simp[xi,Dg]
def uD(w:gk):Str:=⟨w.toArray⟩
def IN(l:gk)(a b:Nat):df ⟨l.toArray⟩ a b=uD ((l.drop a).take (b-a)):=by
 unfold df uD;simp[List.extract_eq_take_drop]
def Dy(l:gk):(⟨l.toArray⟩:Str).length=l.length:=by show l.toArray.size=_;simp
theorem FY(l:gk)(c:Nat):∀ (r:gk) (b a n:Nat),l.drop b=r->a<=b->b<=l.length->iV ⟨l.toArray⟩ 1 a ((BY c r b).take n)=(xi ((l.drop a).take (b-a)) (pS c n r)).map uD
 |[],b,a,n,d,i,B=>by
  have z:b=l.length:=by
   have:=cx fj d;simp at this;lia
  have G:pS c n []=[[]]:=by cases n<;>rfl
  rw[BY,List.take_nil,G];show [df ⟨l.toArray⟩ a (⟨l.toArray⟩:Str).length]=[uD (_++[])];rw[IN,Dy,cT,z]
 |x::r,b,a,0,d,i,B=>by
  rw[fw];show [df ⟨l.toArray⟩ a (⟨l.toArray⟩:Str).length]=[uD (_++(x::r))];rw[IN,Dy,<-d];congr 2;have e:l.drop b=(l.drop a).drop (b-a):=by rw[List.drop_drop];congr 1;lia
  rw[e,jS,dS b']
 |x::r,b,a,n+1,d,i,B=>by
  have j:b<l.length:=by
   have:=cx fj d;simp at this;lia
  have H:(l.drop a)[b-a]? =ae x:=by
   have:=cx kc d;rw[jY]at this;rw[lj,show a+(b-a)=b by lia];exact this
  have y:l.drop (b+1)=r:=by
   have:=cx List.tail d;rw[m4]at this;exact this
  by_cases h:x=c
  .rw[BY,aU h,pS,aU h,List.take_succ_cons];show df ⟨l.toArray⟩ a b::iV ⟨l.toArray⟩ 1 (b+1) _=_;rw[FY l c r (b+1) (b+1) n y (am _) j,IN,ff,fw,IA (DH c n r)];simp[xi]
  .rw[BY,aP h,pS,aP h,FY l c r (b+1) a (n+1) y oZ j,S5 (DH c (n+1) r)];congr 2;rw[show b+1-a=(b-a)+1 by lia,cL,H]
   rfl
theorem EX(c:Nat):∀ (n:Nat) (l:gk),c∉l->pS c n l=[l]
 |0,[],_=>rfl
 |n+1,[],_=>rfl
 |0,x::r,_=>rfl
 |n+1,x::r,h=>by
  rw[pS,aP (λz=>h (by rw[z];exact aG)),EX c (n+1) r (λz=>h (aM _ z))]
  rfl
set_option tactic.hygienic true in
theorem Hv:∀ {l:gk} {i:Nat},BY c l i=[]->c∉l
 |[],_,_=>by simp
 |x::r,i,h=>by
  rw[BY]at h
  split at h
  .cases h
  .rename_i b
   have:=Hv h;simp[this,cV b]
set_option tactic.hygienic true in
def KR(l:gk)(c:Nat)(k:Int)(m:0<=k):jN ⟨l.toArray⟩ ⟨#[c]⟩ k=(pS c k.toNat l).map uD:=by
 have b:nB ⟨l.toArray⟩ k=k.toNat:=by unfold nB;rw[aP oZ]
 unfold jN;rw[b,Ms]
 split
 .rename_i h
  have j:c∉l:=by
   rw[ce,bD,bD]at h;rcases h with h|h
   .rw[Dy]at h;have:l=[]:=gK.mp (by have:(⟨#[c]⟩:Str).length=1:=rfl;lia);simp[this]
   .simpa using StrLaws.kind_free _ _ h
  rw[EX c _ l j];rfl
 .split
  .rename_i h
   rw[List.isEmpty_iff]at h
   by_cases d:k.toNat=0
   .rw[d]
    cases l with
    |nil=>rfl
    |cons x r=>rfl
   .have:BY c l 0=[]:=by
     cases e:BY c l 0 with
     |nil=>rfl
     |cons i t=>
      rw[e,show k.toNat=(k.toNat-1)+1 by lia]at h
      cases h
    rw[EX c _ l (Hv this)];rfl
  .rw[StrLaws.partsBetween_eq];have:=FY l c l 0 0 k.toNat rfl (am _) (bt _);rw[show(⟨#[c]⟩:Str).length=1 from rfl,this,ff,fw,IA (DH c _ l)]
def Tz(l:gk)(c:Nat):nY ⟨l.toArray⟩ ⟨#[c]⟩=(pS c (l.length+1) l).map uD:=by
 have h:=KR l c ((l.length+1:Nat):Int) oZ;rw[fb]at h;rw[<-h];unfold nY jN;have b:nB ⟨l.toArray⟩ ((l.length+1:Nat):Int)=(⟨l.toArray⟩:Str).length+1:=by unfold nB;rw[aP oZ,Dy];lia
 rw[b]
def V7(l:gk)(c:Nat):∃w v u,kZ ⟨l.toArray⟩ ⟨#[c]⟩=(uD w,v,u)/\(pS c 1 l).head?=ae w:=by
 unfold kZ;rw[Ms];have:=FY l c l 0 0 1 rfl (am _) (bt _);rw[ff,fw,IA (DH c _ l)]at this
 cases e:BY c l 0 with
 |nil=>
  rw[EX c _ l (Hv e)];exact⟨l,_,_,rfl,rfl⟩
 |cons i t=>
  rw[e]at this
  cases b:pS c 1 l with
  |nil=>exact(DH c 1 l b).elim
  |cons w a=>
   rw[b]at this;have d:df ⟨l.toArray⟩ 0 i=uD w:=by
    have:=cx kc this;simpa[iV]using this
   refine⟨w,⟨#[c]⟩,df ⟨l.toArray⟩ (i+(⟨#[c]⟩:Str).length) (⟨l.toArray⟩:Str).length,?_,rfl⟩;show(df ⟨l.toArray⟩ 0 i,_,_)=_;rw[d]
end
section
variable{a:ay}{G:ay->Prop}{spOf:ay->Sp}{elt i value:dH}{vs:List (Key×ai)}{xs:List (List Key×ay×ai)}{ph:List (List Key×V)}{ks:List (Option dH)}{values:List dH}{its:List ai}{o:Option V}{td:TE}{wi:TI}{κ:Type}{d y:V}{Q:VK}{r:ai}{Qo:ai->ak->Prop}
theorem Gr:∀ (ws:List gk) (b:Nat),Vals (ws.map tx) (strsFrom b (ws.map uD))
 |[],_=> .nil
 |w::ws,b=> .cons ⟨b,rfl⟩ (Gr ws (b+1))
theorem Ef(c:Nat):∀ (n:Nat) (l:gk),(pS c n l).length<=l.length+1
 |0,[]=>by simp[pS]
 |n+1,[]=>by simp[pS]
 |0,x::r=>by simp[pS]
 |n+1,x::r=>by
  rw[pS]
  split
  .have:=Ef c n r;simp;lia
  .have b:=Ef c (n+1) r;have:(Dg x (pS c (n+1) r)).length=(pS c (n+1) r).length:=by
    cases e:pS c (n+1) r with
    |nil=>exact(DH c (n+1) r e).elim
    |cons w a=>rfl
   rw[this,aJ];lia
def tS:V->gr->Hp->VK->Prop:=λx vs H Q=>∃l c,x=tx l/\l.length<=2000/\((vs=[tx [c]]/\∀p,H p=none->Q (.b p) (upd H p (.a ((pS c (l.length+1) l).map tx))))\/
 ∃k:Int,vs=[tx [c], .a k]/\0<=k/\k<=1000/\∀p,H p=none->Q (.b p) (upd H p (.a ((pS c k.toNat l).map tx))))
def Fc{O:pz}{s:ak}{ws:List gk}{k:Nat}(I:Inv X pb O H s)(e:ws.length<=2001)(d:Vals (ws.map tx) its)(q:∀p,H p=none->Q (.b p) (upd H p (.a (ws.map tx)))):
 EP X pb O Q (aj s.1.1.size) {heap:=s.heap.push {cls:=dY "list",data:=mC its.toArray},gens:=s.gens,drawn:=s.drawn,toks:=k,os:=s.os}:=by
 refine⟨.b _,_,I.mp (o:= .a (ws.map tx)) (λb a q=>af _ q) (am _) ?_,rfl,q _ (I.a.J (am _))⟩;exact⟨by rw[az,bV];lia,_,0,d,aq _ rfl⟩
def Li:wb X "str.split" tS:=by
 intro n s m H x A v U Q I Y rv h;obtain⟨l,c,rfl,E,h⟩:=h;obtain⟨t,rfl⟩:=Y;have P:((⟨#[c]⟩:Str).length==0)=au:=rfl;have z:(⟨l.toArray⟩:Str).length<=sizeLine:=by rw[Dy,bV];lia
 rcases h with⟨rfl,q⟩|⟨k,rfl,p,D,q⟩
 .obtain⟨u,rfl,B,rfl⟩:=rv.Z;have d:=Tz l c;have Z:=Ef c (l.length+1) l;unfold nY at d;have f:[(⟨l.toArray⟩:Str)]=(pS c (l.length+1) l).map uD->EP X n m Q (aj s.1.1.size) {heap:=s.heap.push {cls:=dY "list",data:=mC #[cY ⟨l.toArray⟩ t]},gens:=s.gens,drawn:=s.drawn,toks:=s.toks,os:=s.os}:=λe=>by
   have R:pS c (l.length+1) l=[l]:=by
    cases G:pS c (l.length+1) l with
    |nil=>rw[G]at e;cases e
    |cons w o=>
     rw[G]at e;have J:=cx fj e;have L:=cx kc e;simp at J L;have S:l.toArray=w.toArray:=by
      have:(⟨l.toArray⟩:Str)=⟨w.toArray⟩:=L;injection this
     have M:=cx hJ S;simp at M;rw[J,M]
   exact Fc (ws:=[l]) (its:=[cY ⟨l.toArray⟩ t]) I b' (.cons ⟨t,rfl⟩ .nil) (by rw[R]at q;exact q)
  by_cases y:(decide ((⟨l.toArray⟩:Str).length<(⟨#[c]⟩:Str).length)||decide (cW ⟨l.toArray⟩<cW ⟨#[c]⟩))=aw
  .rw[aU y]at d;exact dJ di (dI s _ t) da (gg _ _) (meets_str_split_cannot_occur _ _ t B y) (f d)
  .rw[aP y]at d;have i:(decide ((⟨l.toArray⟩:Str).length<(⟨#[c]⟩:Str).length)||decide (cW ⟨l.toArray⟩<cW ⟨#[c]⟩))=au:=by simpa using y
   by_cases j:(cc ⟨l.toArray⟩ ⟨#[c]⟩ 0 (⟨l.toArray⟩:Str).length ((⟨l.toArray⟩:Str).length+1)).isEmpty=aw
   .rw[aU j]at d;exact dJ di (dI s _ t) da (gg _ _) (meets_str_split_not_found _ _ t B i P j) (f d)
   .rw[aP j]at d;have r:=by simpa using j
    refine dJ di (dI s _ t) da (gg _ _) (meets_str_split_sep _ _ t B i P (by simpa using j) z (by rw[d,az,bV];lia)) ?_;rw[d];exact Fc I oZ (Gr _ _) q
 .obtain⟨u,g,rfl,⟨B,rfl⟩,r2⟩:∃u g,U=u::g/\RelV (tx [c]) u/\Vals [.a k] g:=by
   cases rv with
   |cons a b=>exact⟨_,_,rfl,a,b⟩
  obtain⟨C,rfl,T,rfl⟩:=r2.Z;have hk:(decide (k< -2^63)||decide (k>=2^63))=au:=by
   rw[Bool.or_eq_false_iff,gH,gH];lia
  have d:=KR l c k p;have Z:=Ef c k.toNat l;unfold jN at d;have f:[(⟨l.toArray⟩:Str)]=(pS c k.toNat l).map uD->EP X n m Q (aj s.1.1.size) {heap:=s.heap.push {cls:=dY "list",data:=mC #[cY ⟨l.toArray⟩ t]},gens:=s.gens,drawn:=s.drawn,toks:=s.toks,os:=s.os}:=λe=>by
   have R:pS c k.toNat l=[l]:=by
    cases G:pS c k.toNat l with
    |nil=>rw[G]at e;cases e
    |cons w o=>
     rw[G]at e;have J:=cx fj e;have L:=cx kc e;simp at J L;have S:l.toArray=w.toArray:=by
      have:(⟨l.toArray⟩:Str)=⟨w.toArray⟩:=L;injection this
     have M:=cx hJ S;simp at M;rw[J,M]
   exact Fc (ws:=[l]) (its:=[cY ⟨l.toArray⟩ t]) I b' (.cons ⟨t,rfl⟩ .nil) (by rw[R]at q;exact q)
  by_cases y:(decide ((⟨l.toArray⟩:Str).length<(⟨#[c]⟩:Str).length)||decide (cW ⟨l.toArray⟩<cW ⟨#[c]⟩))=aw
  .rw[aU y]at d;exact dJ di (dI s _ t) da (ge _ _ _) (meets_str_split_max_cannot_occur _ _ k t B T hk y) (f d)
  .rw[aP y]at d;have i:(decide ((⟨l.toArray⟩:Str).length<(⟨#[c]⟩:Str).length)||decide (cW ⟨l.toArray⟩<cW ⟨#[c]⟩))=au:=by simpa using y
   by_cases j:(cc ⟨l.toArray⟩ ⟨#[c]⟩ 0 (⟨l.toArray⟩:Str).length (nB ⟨l.toArray⟩ k)).isEmpty=aw
   .rw[aU j]at d;exact dJ di (dI s _ t) da (ge _ _ _) (meets_str_split_max_not_found _ _ k t B T hk i P j) (f d)
   .rw[aP j]at d;refine dJ di (dI s _ t) da (ge _ _ _) (meets_str_split_sep_max _ _ k t B T hk i P (by simpa using j) z (by rw[d,az,bV];lia)) ?_;rw[d];exact Fc I oZ (Gr _ _) q
def wh:V->gr->Hp->VK->Prop:=λx vs H Q=>∃l c w,x=tx l/\vs=[tx [c]]/\l.length<=2000/\(pS c 1 l).head?=ae w/\∀p v u,H p=none->Q (.b p) (upd H p (.b [tx w,v,u]))
def WE:wb X "str.partition" wh:=by
 intro n s m H x p v T Q I M rv h;obtain⟨l,c,w,rfl,rfl,U,P,q⟩:=h;obtain⟨t,rfl⟩:=M;obtain⟨u,rfl,R,rfl⟩:=rv.Z;have S:((⟨#[c]⟩:Str).length==0)=au:=rfl;have e:(⟨l.toArray⟩:Str).length<=sizeLine:=by rw[Dy,bV];lia
 obtain⟨Y,a,b,d,j⟩:=V7 l c;rw[P]at j
 cases j
 have f:∀ {y g z:Tok} {k:Nat},EP X n m Q (aj s.1.1.size) {heap:=s.heap.push {cls:=dY "tuple",data:=mC #[cY (uD w) y,cY a g,cY b z]},gens:=s.gens,drawn:=s.drawn,toks:=k,os:=s.os}:=fun{y g z k}=>by
  refine⟨.b _,_,I.mp (o:= .b [tx w, .e a, .e b]) (λb A q=>af _ q) (am _) ?_,rfl,q _ _ _ (I.a.J (am _))⟩;exact⟨by rw[bV];simp,[_,_,_], .cons ⟨y,rfl⟩ (.cons ⟨g,rfl⟩ (.cons ⟨z,rfl⟩ .nil)),⟨_,aq _ rfl,rfl,0,rfl⟩⟩
 refine dJ PySem.F.slot_str_partition (dI s _ t) PySem.F.entry_str_partition (PySem.F.args_str_partition_2 _ _) (meets_str_partition _ _ t R S e) ?_;unfold kZ at d
 cases L:cc ⟨l.toArray⟩ ⟨#[c]⟩ 0 (⟨l.toArray⟩:Str).length 1 with
 |nil=>
  rw[L]at d;simp only[lg]at d;obtain⟨B,G,J⟩:=d;subst G J;rw[<-B]at f;exact f
 |cons i r=>
  rw[L]at d;simp only[lg]at d;obtain⟨B,G,J⟩:=d;subst G J;rw[<-B]at f;exact f
def VL{l:gk}(b:l.length<=2000)(q:∀p,H p=none->Q (.b p) (upd H p (.a ((pS c (l.length+1) l).map tx)))):tS (tx l) [tx [c]] H Q:=⟨l,c,rfl,b, .inl ⟨rfl,q⟩⟩
def UA{l:gk}{k:Int}(b:l.length<=2000)(k0:0<=k)(k1:k<=1000)(q:∀p,H p=none->Q (.b p) (upd H p (.a ((pS c k.toNat l).map tx)))):tS (tx l) [tx [c], .a k] H Q:=⟨l,c,rfl,b, .inr ⟨k,rfl,k0,k1,q⟩⟩
def VN{l w:gk}(b:l.length<=2000)(d:(pS c 1 l).head?=ae w)(q:∀p v u,H p=none->Q (.b p) (upd H p (.b [tx w,v,u]))):wh (tx l) [tx [c]] H Q:=⟨l,c,w,rfl,rfl,b,d,q⟩
section
variable[DecidableEq κ]
def AT(ph:List (κ×V))(k:κ):Option V:=(ph.find? λb=>decide (b.1=k)).map (·.2)
def putK(ph:List (κ×V))(k:κ)(v:V):List (κ×V):=
 if(ph.any λb=>decide (b.1=k))=aw then ph.map (λb=>if b.1=k then(b.1,v)else b)else ph++[(k,v)]
def Bd(ph:List (κ×V))(k:κ):List (κ×V):=ph.filter λb=>decide (b.1≠k)
def HG{p:κ×V}{r:List (κ×V)}{k:κ}(e:p.1=k):AT (p::r) k=ae p.2:=by simp[AT,e6,e]
def HH{p:κ×V}{r:List (κ×V)}{k:κ}(e:¬p.1=k):AT (p::r) k=AT r k:=by simp[AT,e6,e]
theorem EW(k:κ):∀ph:List (κ×V),(ph.any λb=>decide (b.1=k))=(AT ph k).isSome
 |[]=>rfl
 |p::r=>by
  rw[dG]
  by_cases e:p.1=k
  .simp only[HG e,be e,Bool.true_or,lh]
  .rw[HH e,ba e,Bool.false_or];exact EW k r
def Do(ph:List (κ×V))(k:κ)(v:V):(putK ph k v).length<=ph.length+1:=by
 unfold putK
 split
 .rw[az];lia
 .rw[aN,aJ,dP];lia
def UL{ph:List (κ×V)}{k:κ}(v:V)(h:AT ph k=none):putK ph k v=ph++[(k,v)]:=by
 unfold putK;rw[EW,h];exact aP oY
def ql.qf{u:Option ai}(r:ql o u):o.isSome=u.isSome:=by
 cases o with
 |none=>cases u with
  |none=>rfl
  |some _=>exact(show False from r).elim
 |some _=>cases u with
  |none=>exact(show False from r).elim
  |some _=>rfl
def ql.ap{u:Option ai}{d':ai}(r:ql o u)(b:RelV d d'):RelV (o.getD d) (u.getD d'):=by
 cases o with
 |none=>cases u with
  |none=>exact b
  |some _=>exact(show False from r).elim
 |some _=>cases u with
  |none=>exact(show False from r).elim
  |some _=>exact r
def KV.Z{ph:List (κ×V)}{vs:List (κ×ai)}(r:KV ph vs)(k:κ):ql (AT ph k) (i8 vs k):=by
 unfold KV at r
 induction r with
 |nil=>exact dL
 | @cons p q c a h t j=>
   obtain⟨i,x⟩:=h
   by_cases e:p.1=k
   .have d:q.1=k:=i.symm.trans e;have b:i8 (q::a) k=ae q.2:=by simp[i8,e6,d]
    rw[HG e,b];exact x
   .have d:¬q.1=k:=λz=>e (i.trans z);have b:i8 (q::a) k=i8 a k:=by simp[i8,e6,d]
    rw[HH e,b];exact j
theorem KV.any{ph:List (κ×V)}{vs:List (κ×ai)}(r:KV ph vs)(k:κ):(ph.any λb=>decide (b.1=k))=vs.any λb=>decide (b.1=k):=by
 unfold KV at r
 induction r with
 |nil=>rfl
 |cons h t d=>rw[dG,dG,d,h.1]
def KV.wO{ph:List (κ×V)}{vs:List (κ×ai)}(r:KV ph vs)(k:κ){u:ai}(i:RelV y u):
 KV (ph.map λb=>if b.1=k then(b.1,y)else b) (vs.map λb=>if b.1=k then(b.1,u)else b):=by
 unfold KV at r⊢
 induction r with
 |nil=>exact .nil
 | @cons p q c a h t j=>
   rw[aY,aY];refine .cons ?_ j;obtain⟨d,x⟩:=h
   by_cases e:p.1=k
   .rw[aU e,aU (d.symm.trans e)];exact⟨d,i⟩
   .rw[aP e,aP (λz=>e (d.trans z))];exact⟨d,x⟩
def KV.mp{ph:List (κ×V)}{vs:List (κ×ai)}(r:KV ph vs)(k:κ){u:ai}(b:RelV y u):KV (putK ph k y) (stored vs k u):=by
 unfold putK stored;rw[r.any k]
 by_cases e:(vs.any λd=>decide (d.1=k))=aw
 .rw[aU e,aU e];exact r.wO k b
 .rw[aP e,aP e];exact oy r ⟨rfl,b⟩
def KV.mt{ph:List (κ×V)}{vs:List (κ×ai)}(r:KV ph vs)(k:κ):KV (Bd ph k) (without vs k):=by
 unfold KV at r⊢;unfold Bd without
 induction r with
 |nil=>exact .nil
 | @cons p q f c h t i=>
   obtain⟨d,j⟩:=h;rw[jr,jr]
   by_cases e:p.1=k
   .have a:¬decide (p.1≠k)=aw:=by simp[e]
    have b:¬decide (q.1≠k)=aw:=by simp[d.symm.trans e]
    rw[aP a,aP b];exact i
   .have x:¬q.1=k:=λz=>e (d.trans z);have a:decide (p.1≠k)=aw:=by simp[e]
    have b:decide (q.1≠k)=aw:=by simp[x]
    rw[aU a,aU b];exact .cons ⟨d,j⟩ i
def KV.ap{ph:List (κ×V)}{vs:List (κ×ai)}(r:KV ph vs):ph.map (·.1)=vs.map (·.1):=by
 unfold KV at r
 induction r with
 |nil=>rfl
 |cons h t b=>rw[aY,aY,b,h.1]
def KV.J{ph:List (κ×V)}{vs:List (κ×ai)}(r:KV ph vs):ph.length=vs.length:=jf r
def Uy(ph:List (κ×V))(k:κ):(Bd ph k).length<=ph.length:=jX _ _
end
def CM{k:Key}{u:ai}(r:RelV (kV k) u):(An P w).is k u=aw:=by
 cases k with
 |inl i=>obtain⟨t,e⟩:=(show∃t,u=fW i t from r);subst e;exact Q5 P w i t
 |inr x=>obtain⟨t,e⟩:=(show∃t,u=cY x t from r);subst e;exact Q4 P w x t
theorem Kr:∀ {b:List Key} {us:List ai},Vals (b.map kV) us->ItemsAre (An P w) b us
 |[],_,r=>by rw[fH]at r;cases r;exact .nil
 |k::b,_,r=>by
  rw[aY]at r
  cases r with
  |cons h t=>exact .cons (CM h) (Kr t)
abbrev KT(H:Hp):List (List Key×V)->List (List Key×ay×ai)->Prop:=ku λp q=>p.1=q.1/\H q.2.1=ae (.b (p.1.map kV))/\RelV p.2 q.2.2
def KT.J(r:KT H ph xs)(k:List Key):ql (AT ph k) ((nW xs k).map (·.2)):=by
 induction r with
 |nil=>exact dL
 | @cons p q c a h t j=>
   obtain⟨i,_,x⟩:=h
   by_cases e:p.1=k
   .have d:q.1=k:=i.symm.trans e;have b:nW (q::a) k=ae q.2:=by simp[nW,e6,d]
    rw[HG e,b];exact x
   .have d:¬q.1=k:=λz=>e (i.trans z);have b:nW (q::a) k=nW a k:=by simp[nW,e6,d]
    rw[HH e,b];exact j
def KT.wO(r:KT H ph xs)(k:List Key){u:ai}(j:RelV y u):
 KT H (ph.map λd=>if d.1=k then(d.1,y)else d) (xs.map (putAt k u)):=by
 induction r with
 |nil=>exact .nil
 | @cons p q c a h t x=>
   rw[aY,aY];refine .cons ?_ x;obtain⟨b,i,B⟩:=h;unfold putAt
   by_cases e:p.1=k
   .rw[aU e,aU (b.symm.trans e)];exact⟨b,i,j⟩
   .rw[aP e,aP (λz=>e (b.trans z))];exact⟨b,i,B⟩
def KT.ap(r:KT H ph xs)(k:List Key){b:ay}{u:ai}(i:H b=ae (.b (k.map kV)))(d:RelV y u):
 KT H (putK ph k y) (storedH xs k b u):=by
 have e:(ph.any λj=>decide (j.1=k))=(nW xs k).isSome:=by
  rw[EW,(r.J k).qf,iY]
 unfold putK storedH;rw[e]
 by_cases q:(nW xs k).isSome=aw
 .rw[aU q,aU q];exact r.wO k d
 .rw[aP q,aP q];exact oy r ⟨rfl,i,d⟩
def KT.Z(r:KT H ph xs)(h:∀b d,H b=ae (.b d)->H' b=ae (.b d)):KT H' ph xs:=
 Paired.J r λ_ _ z=>⟨z.1,h _ _ z.2.1,z.2.2⟩
section
variable{h:dg}
def OP{u:HO}(k:qG P w H h)(e:Rd H a u):pE P w H h a u:=e.J k
def CD{ph:List (Key×V)}(k:qG P w H h)(e:Rd H a (.d ph)):ph.length<=sizeLine/\(a==bL)=au/\∃vs,KV ph vs/\h.DictOf (An P w) a vs:=
 show pE P w H h a (.d ph)from OP k e
def GQ{ph:List (Key×V)}(k:qG P w H h)(e:H a=ae (.d ph)):ph.length<=sizeLine/\(a==bL)=au/\∃vs,KV ph vs/\h.DictOf (An P w) a vs:=CD k (.inl e)
def qA{k:List Key}(l:qG P w H h)(e:H a=ae (.b (k.map kV))):(jG (An P w)).is h k a:=by
 obtain⟨_,b,r,o,d,i,n,j⟩:=(show pE P w H h a (.b (k.map kV))from l a _ e);exact⟨o,b.toArray,n,d,i,j,by simpa using Kr r⟩
def Df(k:qG P w H h)(e:Rd H a (.g ph)):ph.length<=sizeLine/\(a==bL)=au/\
 ∃xs,KT H ph xs/\h.DictOfH (jG (An P w)) a xs:=by
 obtain⟨z,y,xs,r,o,d,i,j,B,G,I,J⟩:=(show pE P w H h a (.g ph)from OP k e);refine⟨z,y,xs,r,o,d,i,j,B,G,I,λx hx=>?_,J⟩;have c:∀ {l:List (List Key×V)} {m:List (List Key×ay×ai)},KT H l m->∀x∈m,(jG (An P w)).is h x.1 x.2.1:=by
  intro l m q
  induction q with
  |nil=>intro x hx;exact nomatch hx
  | @cons p q g f b t L=>
    intro x hx;rcases aL.mp hx with e|hx
    .subst e;exact qA k (by rw[<-b.1];exact b.2.1)
    .exact L x hx
 exact c r x hx
def ZT(k:qG P w H h)(e:H a=ae (.g ph)):ph.length<=sizeLine/\(a==bL)=au/\
 ∃xs,KT H ph xs/\h.DictOfH (jG (An P w)) a xs:=Df k (.inl e)
end
def pG(H:Hp)(a:ay)(y:V)(r:Option V):Prop:=
 (∃ph k,Rd H a (.d ph)/\y=kV k/\r=AT ph k)\/∃ph k b,Rd H a (.g ph)/\y= .b b/\H b=ae (.b (k.map kV))/\r=AT ph k
def qX(H:Hp)(a:ay)(y v:V)(d:Hp):Prop:=
 (∃ph k,H a=ae (.d ph)/\y=kV k/\ph.length<sizeLine/\d=upd H a (.d (putK ph k v)))\/
 ∃ph k b,H a=ae (.g ph)/\y= .b b/\H b=ae (.b (k.map kV))/\ph.length<sizeLine/\d=upd H a (.g (putK ph k v))
def pG.k{ph:List (Key×V)}{k:Key}(e:H a=ae (.d ph)):pG H a (kV k) (AT ph k):= .inl ⟨ph,k, .inl e,rfl,rfl⟩
def qX.k{ph:List (Key×V)}{k:Key}{v:V}(e:H a=ae (.d ph))(b:ph.length<sizeLine):qX H a (kV k) v (upd H a (.d (putK ph k v))):= .inl ⟨ph,k,e,rfl,b,rfl⟩
section
variable{O:pz}{s:ak}{v:V}{u:ai}
def Inv.big(I:Inv X pb O H s):bL<s.1.1.size:=by
 have h:bq<s.1.1.size:=(I.mod.a.keeps I.bk).lt;exact eG oY h
def TK{Q:ai->ak->Prop}(J:A.units+1<iw)(I:Inv X pb O H s)(g:pG H a y (ae v))(B:RelV y u)(h:∀i G,Inv X pb O H G->RelV v i->Q i G):
 aO (aV X.d X.w) A (lE (.ref a) u) Q E s:=by
 rcases g with⟨n,k,e,f,l⟩|⟨n,k,b,e,f,r,l⟩
 .subst f;obtain⟨z,q,m,c,dd⟩:=CD I.a e;obtain⟨i,j,d⟩:=ql.J (v:=v) (o:=i8 m k) (by rw[l];exact c.Z k);exact mf (CM B) dd.mapOf j (h i _ (I.Z _) d)
 .subst f
  cases(show u=aj b from B)
  obtain⟨z,q,L,c,dd⟩:=Df I.a e;obtain⟨i,j,d⟩:=ql.J (v:=v) (o:=(nW L k).map (·.2)) (by rw[l];exact c.J k);obtain⟨p,M,x⟩:=dj.mp j;refine wpAny_getItem_heap (fy J) (qA I.a r) dd M ?_;rw[x];exact h i _ (I.Z _) d
def Zz{Q:ai->ak->Prop}(j:A.units+1<iw)(I:Inv X pb O H s)(g:pG H a y o)(d:RelV y u)(h:∀i,Inv X pb O H i->Q (.bool o.isSome) i):
 aO (aV X.d X.w) A (bu .In u (.ref a)) Q E s:=by
 rcases g with⟨n,k,e,m,l⟩|⟨n,k,b,e,m,p,l⟩
 .subst m;obtain⟨z,f,r,c,dd⟩:=CD I.a e;refine wpAny_in_of (CM d) f dd.mapOf ?_;rw[<-(c.Z k).qf,<-l];exact h _ (I.Z _)
 .subst m
  cases(show u=aj b from d)
  obtain⟨z,f,x,c,dd⟩:=Df I.a e;refine wpAny_in_heap (fy j) (qA I.a p) f dd ?_;have q:=(c.J k).qf;rw[iY]at q;rw[<-q,<-l];exact h _ (I.Z _)
def WW{Q:ai->ak->Prop}(j:A.units+1<iw)(I:Inv X pb O H s)(g:pG H a y o)(d:RelV y u)(h:∀i,Inv X pb O H i->Q (.bool (!o.isSome)) i):
 aO (aV X.d X.w) A (bu .NotIn u (.ref a)) Q E s:=by
 rcases g with⟨n,k,e,m,l⟩|⟨n,k,b,e,m,p,l⟩
 .subst m;obtain⟨z,f,r,c,dd⟩:=CD I.a e;refine wpAny_notIn_of (CM d) f dd.mapOf ?_;rw[<-(c.Z k).qf,<-l];exact h _ (I.Z _)
 .subst m
  cases(show u=aj b from d)
  obtain⟨z,f,x,c,dd⟩:=Df I.a e;refine wpAny_notIn_heap (fy j) (qA I.a p) f dd ?_;have q:=(c.J k).qf;rw[iY]at q;rw[<-q,<-l];exact h _ (I.Z _)
def Fv{h:HO}(I:Inv X pb O H s)(d:xP (H a))(i:bC a s.heap h')(j:∃q,h'.get? a=ae q)(k:pE X.d X.w (upd H a h) h' a h):
 Inv X pb O (upd H a h) {s with heap:=h',toks:=t'}:=
 I.write (x:=a) (e:=a) d (.inl rfl) (λb q B z=>(i.2 b B).trans z) j k
def Ia{ph:List (Key×V)}(z:ph.length<=sizeLine)(k:(a==bL)=au)(h:KV ph vs)(dd:h'.DictOf (An P w) a vs):
 pE P w H' h' a (.d ph):=⟨z,k,vs,h,dd⟩
def TJ{Q:Unit->ak->Prop}(P:A.units+1<iw)(I:Inv X pb O H s)(g:qX H a y v H')(G:RelV y u)(N:RelV v r)(h:∀J,Inv X pb O H' J->Q () J):
 aO (aV X.d X.w) A (oh (.ref a) u r) Q E s:=by
 rcases g with⟨f,k,e,n,l,o⟩|⟨f,k,b,e,n,t,l,o⟩
 .subst n o;obtain⟨z,m,vs,rel,p⟩:=GQ I.a e;have j:vs.length<=sizeLine:=by rw[<-rel.J];exact z
  have x:(putK f k v).length<=sizeLine:=by have:=Do f k v;lia
  refine wpAny_setItem_pairs (hsz:=j) (CM G) p λL d B=>h _ ?_;have R:∃q,L.get? a=ae q:=let⟨q,_,_,i,_⟩:=d;⟨q,i⟩;exact Fv I (by rw[e];exact dL) B R (Ia x m (rel.mp k N) d)
 .subst n o
  cases(show u=aj b from G)
  obtain⟨z,m,S,rel,p⟩:=ZT I.a e;have j:S.length<=sizeLine:=by rw[<-jf rel];exact z
  have x:(putK f k v).length<=sizeLine:=by have:=Do f k v;lia
  refine wpAny_setItem_heap (hsz:=j) (fy P) (qA I.a t) p λL d B=>h _ ?_;obtain⟨q,T,U,i,Y,Z,D,_,C⟩:=d;refine Fv I (by rw[e];exact dL) B ⟨q,i⟩ ⟨x,m,_,(rel.ap k t N).Z λc K M=>?_,q,T,U,i,Y,Z,D,C⟩;rw[AG (qN M e (λz=>nomatch z))];exact M
end
section
variable{O:pz}{s:ak}{ph:List (Key×V)}{k:Key}{u:ai}
def Og{v:V}{m:List ai}{Q:ai->ak->Prop}(I:Inv X pb O H s)(e:H a=ae (.d ph))(j:RelV (kV k) u)(l:AT ph k=ae v)(B:m=[]\/∃x,m=[x])
 (h:∀b G,Inv X pb O (upd H a (.d (Bd ph k))) G->RelV v b->Q b G):aO (aV X.d X.w) A (call (.builtin "dict.pop") (.ref a::u::m)) Q E s:=by
 obtain⟨z,f,c,rel,dd⟩:=GQ I.a e;obtain⟨b,J,y⟩:=ql.J (v:=v) (o:=i8 c k) (by rw[<-l];exact rel.Z k);have L:(keyPart u).isSome=aw:=by
  cases k with
  |inl i=>obtain⟨t,q⟩:=(show∃t,u=fW i t from j);subst q;rfl
  |inr x=>obtain⟨t,q⟩:=(show∃t,u=cY x t from j);subst q;rfl
 have M:ni "dict.pop" ⟨.ref a::u::m,[]⟩:=by
  rcases B with q|⟨x,q⟩
  .subst q;exact PySem.F.args_dict_pop_2 _ _
  .subst q;exact jd _ _ _
 refine jM fG dd.typeIs jy M (meets_dict_pop_there (An X.d X.w) a (CM j) m B L)
  ⟨c,b,dd,by rw[<-rel.J];exact z,J,λP d R=>h b _ ?_ y⟩
 have S:∃q,P.get? a=ae q:=let⟨q,_,_,T,_⟩:=d;⟨q,T⟩;exact Fv I (by rw[e];exact dL) R S (Ia (bw (Uy ph k) z) f (rel.mt k) d)
def Ya{Q:ai->ak->Prop}(I:Inv X pb O H s)(e:H a=ae (.d ph))(b:RelV (kV k) u)(l:AT ph k=none)(h:∀d,Inv X pb O H d->Q r d):
 aO (aV X.d X.w) A (call (.builtin "dict.pop") [.ref a,u,r]) Q E s:=by
 obtain⟨z,g,f,c,dd⟩:=GQ I.a e;have j:i8 f k=none:=ql.Z (by rw[<-l];exact c.Z k);have y:(keyPart u).isSome=aw:=by
  cases k with
  |inl i=>obtain⟨t,q⟩:=(show∃t,u=fW i t from b);subst q;rfl
  |inr x=>obtain⟨t,q⟩:=(show∃t,u=cY x t from b);subst q;rfl
 exact jM fG dd.typeIs jy (jd _ _ _) (meets_dict_pop_default (An X.d X.w) a (CM b) g y r) ⟨f,dd,j,h _ (I.Z _)⟩
end
def FL(i:dH):Prop:=∀b d,kA i au b d=operate [b,d] (lE b d)
def MO{s:ak}{k:dH}{pos:Pos}{T id:String}{Q:ai->ak->Prop}
 (B:na (.type T) "__getitem__"=pure (ae (.builtin id))) (G:FL k)
 (h:aO (aV prog w) A (eval value env) (λo d=>aO (aV prog w) A (eval k env) (λi a=>a.TypeIs o T/\aO (aV prog w) A (lE o i) Q E a) E d) E s):
 aO (aV prog w) A (eval (.Subscript value k pos) env) Q E s:=by
 refine lI (bi h (λo d j=>bi j (λi a b=>?_) λ_ _ x=>x) λ_ _ x=>x);obtain⟨z,b⟩:=b;unfold i9;refine ac ?_;rw[getitemInPython_of_ne z.not_modules];refine ac (gB z B ?_);have c:aO (aV prog w) A (kA k au o i) (λr e=>aO (aV prog w) A (letTemporaryGo value o r>>=λ_=>pure r) Q E e) E a:=by
  rw[G o i];exact wpAny_operating (bi b (λr e y=>ac (wpAny_letTemporaryGo (ah y))) λ_ _ x=>x)
 first
  |exact ah (ac c)
  |exact ac (ah (ac c))
  |exact ac c
def RB{O:pz}{s:ak}(I:Inv X pb O H s)(g:pG H a y o):s.TypeIs (.ref a) "dict":=by
 rcases g with⟨c,k,e,_,_⟩|⟨c,k,b,e,_,_,_⟩
 .obtain⟨_,_,f,_,dd⟩:=CD I.a e;exact dd.typeIs
 .obtain⟨_,_,d,_,dd⟩:=Df I.a e;exact dd.typeIs
def Ij(d h:TE):TE:=λc H Q=>d c H λx e=>h c e λy b=>∃a v,x= .b a/\pG b a y (ae v)/\Q v b
def Oy(h d:TE):TE:=λc H Q=>h c H λy e=>d c e λx b=>∃a o,x= .b a/\pG b a y o/\Q (.c o.isSome) b
def MK(h d:TE):TE:=λc H Q=>h c H λy e=>d c e λx b=>∃a o,x= .b a/\pG b a y o/\Q (.c (!o.isSome)) b
def OO(d h e:TE):TS:=λD c H=>e c H λv i=>d c i λx j=>h c j λy z=>∃a b,x= .b a/\qX z a y v b/\D.nx c b
section
variable{o:dH}{pos:Pos}{ty tv:TE}
def V3(j:X.A.units+1<iw)(z:PE X o td)(k:PE X i ty)(B:FL i):PE X (.Subscript o i pos) (Ij td ty):=by
 intro e s c H Q I h;refine MO iG.lookup B (zz (z e s c H _ I h) λu G x J L M P=>pB (k e G c J _ L P) λZ n R=>?_);obtain⟨y,S,d,T,a,v,f,g,U⟩:=R;subst f;obtain rfl:u=aj a:=M;exact⟨RB d g,TK j d g T λl m Y b=>⟨v,S,Y,b,U⟩⟩
def X3(b:X.A.units+1<iw)(k:PE X i ty)(d:PE X o td):PC X .In i o (Oy ty td):=by
 intro e s c H Q I h;refine zz (k e s c H _ I h) λU j y z B G J=>zz (d e j c z _ B J) λu Y x L M P l=>?_;obtain⟨a,R,f,g,S⟩:=l;subst f;obtain rfl:u=aj a:=P;exact Zz b M g G λZ T=>⟨.c R.isSome,L,T,rfl,S⟩
def ER(b:X.A.units+1<iw)(k:PE X i ty)(d:PE X o td):PC X .NotIn i o (MK ty td):=by
 intro e s c H Q I h;refine zz (k e s c H _ I h) λY j y z B G J=>pB (d e j c z _ B J) λu Z L=>?_;obtain⟨x,M,P,R,a,S,f,g,T⟩:=L;subst f;obtain rfl:u=aj a:=R;exact WW b P g G λl U=>⟨.c (!S.isSome),M,U,rfl,T⟩
def DC(b:X.A.units+1<iw)(d:PE X o td)(k:PE X i ty)(j:PE X value tv)(z:gZ value (ae (.Subscript o i pos')) pos.line X.a=pure au):
 PS X (.Assign [.Subscript o i pos'] value pos) (OO td ty tv):=by
 intro e s c H D I h;refine wpAny_Assign_Subscript (zz (j e s c H _ I h) λr B v G J f L=>zz (d e B c G _ J L) λu M x P Q R S=>zz (k e M c P _ Q S) λq p y t T U n=>?_) z;obtain⟨a,Y,l,g,Z⟩:=n;subst l;obtain rfl:u=aj a:=R;exact TJ b T g U f λn m=>⟨c,Y,m,Z⟩
end
def Lz(h:dg)(b:bL<h.objs.size):pE P w H (h.push {cls:= .type "dict",data:= .dict #[]}) h.objs.size (.d []):=
 ⟨bt _,dq.mpr (cV (aT b)),[], .nil,Heap.DictOf.new h⟩
def wK:TE:=λ_ H Q=>∀p,H p=none->Q (.b p) (upd H p (.d []))
section
variable{pos:Pos}
def DS:PE X (.Dict [] [] pos) wK:=λc s b H Q I h=>
 wpAny_Dict_empty ⟨.b s.1.1.size,_,I.mp (a:=s.1.1.size) (o:= .d []) (t':=s.toks) (λ_ _ q=>af _ q) (am _) (Lz s.heap I.big),rfl,h _ (I.a.J (am _))⟩
end
def F5:List (TE×TE)->pz->Hp->(List (V×V)->Hp->Prop)->Prop
 |[],_,H,Q=>Q [] H
 |(c,b)::r,a,H,Q=>c a H λx H1=>b a H1 λy f=>F5 r a f λd e=>Q ((x,y)::d) e
abbrev VV:List (V×V)->List (ai×ai)->Prop:=ku λp q=>RelV p.1 q.1/\RelV p.2 q.2
def xM(X:Cx)(pos:Pos)(k:List (Option dH))(h:List dH)(b:List (TE×TE)):Prop:=
 ∀ (pb:List (ay×Obj)) (s:ak) (a:pz) (H:Hp) (Q:List (V×V)->Hp->Prop),Inv X pb a H s->F5 b a H Q->
   aO (aV X.d X.w) X.A (evalPairs (pairTrees k h X.a pos)) (λvs e=>∃c d,Inv X pb a d e/\VV c vs/\Q c d) X.xe s
def Vq{pos:Pos}:xM X pos [] [] []:=λb s a H Q I h=>pairTrees_nil_walk ⟨[],H,I, .nil,h⟩
def UQ{pos:Pos}{k v:dH}{vs:List dH}{m l:TE}(q:PE X k m)(b:PE X v l)(d:xM X pos ks vs trs):
 xM X pos (ae k::ks) (v::vs) ((m,l)::trs):=λf s a H Q I h=>
 pairTrees_cons_walk (zz (q f s a H _ I h) λu e x i j z B=>zz (b f e a i _ j B) λU G y J L M P=>
  pB (d f G a J _ L P) λn Y ⟨g,R,S,c,T⟩=>⟨(x,y)::g,R,S, .cons ⟨z,M⟩ c,T⟩)
def Dx(ph h:List (Key×V)):List (Key×V):=h.foldl (λb d=>putK b d.1 d.2) ph
def KV.ld:∀ {a:List (Key×V)} {c:List (Key×ai)} {ph:List (Key×V)} {vs:List (Key×ai)},KV a c->KV ph vs->KV (Dx ph a) (merged vs c):=by
 intro a c ph vs r;unfold KV at r
 induction r generalizing ph vs with
 |nil=>intro q;exact q
 | @cons p q g f h t b=>
   intro d;have e:KV (putK ph p.1 p.2) (stored vs q.1 q.2):=by
    have:=d.mp p.1 h.2;rw[<-h.1];exact this
   exact b e
theorem Jd:∀ (more ph:List (Key×V)),(Dx ph more).length<=ph.length+more.length
 |[],ph=>by show ph.length<=ph.length+0;lia
 |p::r,ph=>by
  have b:=Jd r (putK ph p.1 p.2);have d:=Do ph p.1 p.2;show(Dx (putK ph p.1 p.2) r).length<=_;rw[aJ];lia
theorem KJ{P:bW}{w:dh}:∀ {ph:List (Key×V)} {ws:List (ai×ai)},VV (ph.map λe=>(kV e.1,e.2)) ws->∃d,Carries (An P w) ws d/\KV ph d
 |[],_,r=>by rw[fH]at r;cases r;exact⟨[],dL, .nil⟩
 |p::ph,_,r=>by
  rw[aY]at r
  cases r with
  | @cons a b j g h t=>
    obtain⟨d,c,q⟩:=KJ (P:=P) (w:=w) t;obtain⟨i,f⟩:=b;exact⟨(p.1,f)::d,⟨CM h.1,rfl,c⟩, .cons ⟨rfl,h.2⟩ q⟩
def OG(b:List (TE×TE)):TE:=λa H Q=>∀p,H p=none->F5 b a (upd H p (.d [])) λc d=>d p=ae (.d [])/\∃ph:List (Key×V),c=ph.map (λe=>(kV e.1,e.2))/\ph.length<=15/\Q (.b p) (upd d p (.d (Dx [] ph)))
def V2{pos:Pos}{keys:List (Option dH)}(h:xM X pos keys values trs)(b:keys.all (·.isSome)=aw)(x:keys.length=values.length)(u:keys≠[])
 (i:keys.length<=15):PE X (.Dict keys values pos) (OG trs):=by
 intro m s k H Q I q;have y:=I.a.J (am s.1.1.size);have B:=I.mp (a:=s.1.1.size) (o:= .d []) (h':=s.heap.push {cls:= .type "dict",data:= .dict #[]}) (t':=s.toks) (λ_ _ q=>af _ q) (am _) (Lz s.heap I.big);refine wpAny_Dict_walk (knd:=An X.d X.w) b x u i (pB (h m _ k _ _ B (q _ y)) λv A G=>?_);obtain⟨C,E,j,f,e,g,J,D,L⟩:=G;subst J;obtain⟨l,c,M⟩:=KJ (P:=X.d) (w:=X.w) f;obtain⟨z,p,R,S,t⟩:=GQ j.a e
 cases S
 refine⟨l,c,t,λr d T=>⟨.b s.1.1.size,_,?_,rfl,L⟩⟩;have U:(Dx [] g).length<=sizeLine:=by
  have Y:=Jd g [];rw[dP]at Y;rw[bV];lia
 have Z:∃q,r.get? s.1.1.size=ae q:=let⟨q,_,_,n,_⟩:=d;⟨q,n⟩;exact Fv j (by rw[e];exact dL) T Z (Ia U p (M.ld .nil) d)
structure M1 (X:Cx) (o:dH) (m:Str) (apos:Pos) (e:dH) (cpos:Pos):Prop where
 c:eh o m X.a (eval o X.a)=eval o X.a
 d:((dN cpos (aI [e] X.a)).all (λx=> !x.1)&&(iA cpos (fD [] X.a)).all (λx=>x.1.isSome)
  &&decide (([e]:List dH).length+([]:List kJ).length+(if([]:List kJ).isEmpty then 0 else 1)<30))=aw
 b:(apos.endLine==cpos.line)=aw
 a:dN cpos (aI [e] X.a)=[(au,eval e X.a)]
structure M2 (X:Cx) (o:dH) (m:Str) (apos:Pos) (e f:dH) (cpos:Pos):Prop where
 b:eh o m X.a (eval o X.a)=eval o X.a
 d:((dN cpos (aI [e,f] X.a)).all (λx=> !x.1)&&(iA cpos (fD [] X.a)).all (λx=>x.1.isSome)
  &&decide (([e,f]:List dH).length+([]:List kJ).length+(if([]:List kJ).isEmpty then 0 else 1)<30))=aw
 c:(apos.endLine==cpos.line)=aw
 a:dN cpos (aI [e,f] X.a)=[(au,eval e X.a),(au,eval f X.a)]
def xc(H:Hp)(a:ay):Prop:=(∃ph,Rd H a (.d ph))\/∃ph,Rd H a (.g ph)
def IW{O:pz}{s:ak}(I:Inv X pb O H s)(d:xc H a):
 s.TypeIs (.ref a) "dict"/\(∀b,aj a= .ref b->∃ob,s.heap.get? b=ae ob/\ob.dict=none)/\(a==bL)=au:=by
 rcases d with⟨f,e⟩|⟨f,e⟩
 .obtain⟨_,c,g,_,dd⟩:=CD I.a e;refine⟨dd.typeIs,λb q=>?_,c⟩
  cases q
  obtain⟨ob,_,_,i,j,_⟩:=dd;exact⟨ob,i,j.2.1⟩
 .obtain⟨_,c,x,_,dd⟩:=Df I.a e;refine⟨dd.typeIs,λb q=>?_,c⟩
  cases q
  obtain⟨ob,_,_,i,j,_⟩:=dd;exact⟨ob,i,j.2.1⟩
section
variable{O:pz}{s:ak}{u:ai}
def Yb{Q:ai->ak->Prop}(G:A.units+1<iw)(I:Inv X pb O H s)(g:pG H a y o)(i:RelV y u)(j:RelV d r)(h:∀x B,Inv X pb O H B->RelV (o.getD d) x->Q x B):
 aO (aV X.d X.w) A (call (.builtin "dict.get") [.ref a,u,r]) Q E s:=by
 rcases g with⟨n,k,e,m,l⟩|⟨n,k,b,e,m,p,l⟩
 .subst m;obtain⟨z,f,q,c,dd⟩:=CD I.a e;refine jM hB dd.typeIs jz (je _ _ _) (meets_dict_get_default (An X.d X.w) a (CM i) f r) ⟨_,dd.mapOf,h _ _ (I.Z _) ?_⟩;rw[l];exact(c.Z k).ap j
 .subst m
  cases(show u=aj b from i)
  obtain⟨z,f,J,c,dd⟩:=Df I.a e;refine jM hB dd.typeIs jz (je _ _ _) (meetsH_dict_get_default (jG (An X.d X.w)) a b f r) ⟨fy G,k,J,qA I.a p,dd,h _ _ (I.Z _) ?_⟩;rw[l];exact(c.J k).ap j
end
def NR(e h k:TE):TE:=λc H Q=>e c H λx b=>∃a,x= .b a/\xc b a/\h c b λy i=>k c i λz d=>∃o,pG d a y o/\Q (o.getD z) d
def NQ(e h:TE):TE:=λc H Q=>e c H λx b=>∃a,x= .b a/\xc b a/\h c b λy d=>∃ph k v,d a=ae (.d ph)/\y=kV k/\AT ph k=ae v/\Q v (upd d a (.d (Bd ph k)))
def NP(e h l:TE):TE:=λc H Q=>e c H λx d=>∃a,x= .b a/\xc d a/\h c d λy i=>l c i λz b=>∃ph k,b a=ae (.d ph)/\y=kV k/\
 (∀v,AT ph k=ae v->Q v (upd b a (.d (Bd ph k))))/\(AT ph k=none->Q z b)
section
variable{o f:dH}{apos cpos:Pos}{ty tx:TE}
def Ub(j:X.A.units+1<iw)(B:PE X o td)(G:PE X e ty)(J:PE X f tx)(m:M2 X o "get" apos e f cpos):PE X (.Call (.Attribute o "get" apos) [e,f] [] cpos) (NR td ty tx):=by
 intro k s c H Q I h;refine iP m.b m.d m.c gI hB PySem.F.type_dict_get (pB (B k s c H _ I h) λu L M=>?_);obtain⟨x,P,i,R,a,r,d,S⟩:=M;subst r;obtain rfl:u=aj a:=R;obtain⟨T,U,_⟩:=IW i d;refine⟨T,U,?_⟩;rw[m.a];refine dU rfl (eR (dc (zz (G k L c P _ i S) λO Y y Z w n q=>
  dc (zz (J k Y c Z _ w q) λV K z C v l ⟨N,g,p⟩=>fc ?_))))
 exact Yb j v g n l λD E t b=>⟨_,C,t,b,p⟩
def UZ(j:PE X o td)(z:PE X e ty)(m:M1 X o "pop" apos e cpos):PE X (.Call (.Attribute o "pop" apos) [e] [] cpos) (NQ td ty):=by
 intro f s c H Q I h;refine iP m.c m.d m.b gI fG jP (pB (j f s c H _ I h) λu B G=>?_);obtain⟨x,J,i,L,a,g,d,M⟩:=G;subst g;obtain rfl:u=aj a:=L;obtain⟨P,R,_⟩:=IW i d;refine⟨P,R,?_⟩;rw[m.a];refine dU rfl (eR (dc (zz (z f B c J _ i M) λw r y A S T ⟨t,k,v,U,Y,l,Z⟩=>fc ?_)));subst Y;exact Og S U T l (.inl rfl) λp q n b=>⟨v,_,n,b,Z⟩
def UY(L:PE X o td)(M:PE X e ty)(P:PE X f tx)(m:M2 X o "pop" apos e f cpos):PE X (.Call (.Attribute o "pop" apos) [e,f] [] cpos) (NP td ty tx):=by
 intro g s c H Q I h;refine iP m.b m.d m.c gI fG jP (zz (L g s c H _ I h) λu R x S j T F=>?_);obtain⟨a,E,d,U⟩:=F;subst E;obtain rfl:u=aj a:=T;obtain⟨Y,Z,_⟩:=IW j d;refine⟨Y,Z,?_⟩;rw[m.a];refine dU rfl (eR (dc (zz (M g R c S _ j U) λiv p y O K B w=>
  dc (zz (P g p c O _ K w) λC s3 z N G q ⟨A,k,J,D,t,r⟩=>fc ?_))))
 subst D
 cases l:AT A k with
 |some v=>exact Og G J B l (.inr ⟨C,rfl⟩) λV n b i=>⟨v,_,b,i,t v l⟩
 |none=>exact Ya G J B l λn b=>⟨z,N,b,q,r l⟩
end
section
variable[DecidableEq κ]
def LE{ph:List (κ×V)}{k:κ}(h:AT ph k=none):¬k∈ph.map (·.1):=by
 intro m;obtain⟨p,b,e⟩:=bJ.mp m;have q:(ph.any λd=>decide (d.1=k))=aw:=List.any_eq_true.mpr ⟨p,b,be e⟩;rw[EW,h]at q;exact absurd q b'
def TH{ph:List (κ×V)}{k:κ}{p:κ×V}(h:p∈Bd ph k):p∈ph:=(jV.mp h).1
end
def Wj(i:Nat)(G:ay->Prop)(spOf:ay->Sp)(R:XR)(t:TA):TE:=λa H Q=>∃f,a[i]? =ae (ae (.b f))/\G f/\t a H λvs b=>spOf f vs b Q (xk R a)
def V1(i:Nat){k:Nat}{ps:hE}{R:XR}{t:TA}{p pos:Pos}
 (U:∀f,G f->∃fd,pV X.d X.w X.K X.h X.f (uB X.d X.w) k f fd ps (spOf f)/\W.keepIn X.K (.ref f)=aw/\Binds X.K fd ps []) (T:pM k X.A) (Y:∀e y,XF X R e y->X.xe e y) (Z:PA X (e::es) t)
 (hN:X.N[i]? =ae x<|>n') (O:xa X.a.scope x<|>rn) (E:qq x<|>pu) (B:(x==("__classdict__":Str))=au<|>pu)
 (V:qr X e es<|>n') (J:(dN pos (aI es X.a)).any (·.1)=au<|>n'):
 PE X (.Call (.Name x p) (e::es) [] pos) (Wj i G spOf R t):=by
 intro g s a H Q I h;obtain⟨f,ef,D,h⟩:=h;obtain⟨fd,F,hk,hb⟩:=U f D;refine cF (pB (Ng hN O E B g s a H (λv H'=>v= .b f/\H'=H) I ⟨.b f,ef,rfl,rfl⟩) λu n l=>?_);obtain⟨v,H0,M,o,P,eH⟩:=l;subst P eH;obtain rfl:u=aj f:=o;refine W.callWith_K (h₀:=X.f) M.e.f.b hk (zQ (Z pos g n a _ _ M h) λj L m S b r q=>⟨b.qB,?_⟩) V J;have C:j.length=ps.length:=by rw[<-r.J];exact F.b _ _ _ _ q
 refine gb (dB (F.a X.A X.e L S ⟨j,[]⟩ j m Q (xk R a) T b.uQ ?_ r q) λc y d=>?_)
 .have z:=hb L j b.qB (by rw[cT];exact C);rw[cT]at z;exact z
 .cases c with
  |error P=>exact Y _ _ ⟨g,a,S,L,b,d⟩
  |ok fl=>
   cases fl with
   |ret u=>exact b.after d
   |next=>exact bH d
   |brk=>exact bH d
   |cont=>exact bH d
def vD(P:bW)(w:dh)(K:aB)(a:ay)(ph:List (Key×V)):Prop:=∃ (o:Obj) (b:Array mY) (d:Nat) (vs:List (Key×ai)),KV ph vs/\K.lookup a=ae o/\o.ExactDict/\o.data=Data.dict b d/\KeysOf (An P w) b/\Pairs (An P w) b.toList vs/\(vs.map λx=>x.1).Nodup/\(a==bL)=au
def vD.J{O:pz}{s:ak}{ph:List (Key×V)}(h:vD X.d X.w X.K a ph)(I:Inv X pb O H s):(a==bL)=au/\∃vs,KV ph vs/\s.heap.DictOf (An X.d X.w) a vs:=by
 obtain⟨o,b,d,vs,r,e,j,g,hk,i,f,c⟩:=h;exact⟨c,vs,r,o,b,d,I.qB _ _ e,j,g,hk,i,f⟩
def IK(P:bW)(w:dh)(K:aB)(b h:TE):TE:=λc H Q=>b c H λx d=>h c d λy e=>∃a ph k v,x= .b a/\vD P w K a ph/\y=kV k/\AT ph k=ae v/\Q v e
def Ua{o:dH}{m:TE}{pos:Pos}(P:bW)(w:dh)(K:aB)(j:PE X o td)(N:PE X i m)(z:FL i)(B:X.d=P<|>n')(b:X.w=w<|>n')(G:X.K=K<|>n'):PE X (.Subscript o i pos) (IK P w K td m):=by
 subst B b G;intro n s g H Q I h;refine MO iG.lookup z (zz (j n s g H _ I h) λu J x L M R S=>pB (N n J g L _ M S) λD A T=>?_);obtain⟨y,U,e,Y,a,C,k,v,r,f,Z,l,q⟩:=T;subst r Z;obtain rfl:u=aj a:=R;obtain⟨_,p,c,dd⟩:=f.J e;obtain⟨t,b,d⟩:=ql.J (v:=v) (o:=i8 p k) (by rw[<-l];exact c.Z k);exact⟨dd.typeIs,mf (CM Y) dd.mapOf b ⟨v,U,e.Z _,d,q⟩⟩
def LJ(P:bW)(w:dh)(K:aB)(h b:TE):TE:=λc H Q=>h c H λy d=>b c d λx e=>∃a ph k,x= .b a/\vD P w K a ph/\y=kV k/\Q (.c (!(AT ph k).isSome)) e
def RV{o:dH}{l:TE}(P:bW)(w:dh)(K:aB)(q:PE X i l)(d:PE X o td)(e:X.d=P<|>n')(j:X.w=w<|>n')(z:X.K=K<|>n'):PC X .NotIn i o (LJ P w K l td):=by
 subst e j z;intro m s g H Q I h;refine zz (q m s g H _ I h) λZ B y G J L M=>pB (d m B g G _ J M) λu t R=>?_;obtain⟨x,S,b,T,a,v,k,p,f,U,Y⟩:=R;subst p U;obtain rfl:u=aj a:=T;obtain⟨n,r,c,dd⟩:=f.J b;refine wpAny_notIn_of (CM L) n dd.mapOf ?_;rw[<-(c.Z k).qf];exact⟨.c _,S,b.Z _,rfl,Y⟩
def EC(w:dh)(x:Str×Tok×ai):mY:=⟨PyData.keyHash w.params x.1, .str x.1 x.2.1,x.2.2⟩
theorem Kx:∀l:List (Str×Tok×ai),Pairs (An P w) (l.map (EC w)) (l.map λx=>((.inr x.1:Key),x.2.2))
 |[]=> .nil
 |x::l=> .cons (Gz x.1 x.2.1) rfl (Kx l)
theorem N4:∀ {l:List (Str×Tok×ai)} {vs:gr},ku RelV vs (l.map λx=>x.2.2)->KV ((l.map λx=>(.inr x.1:Key)).zip vs) (l.map λx=>((.inr x.1:Key),x.2.2))
 |[],[],_=> .nil
 |[],_::_,h=>by cases h
 |x::l,[],h=>by cases h
 |x::l,v::vs,h=>by
  cases h with
  |cons a b=>exact .cons ⟨rfl,a⟩ (N4 b)
def YU{o:Obj}(l:List (Str×Tok×ai)){vs:gr}(i:K.lookup a=ae o)(m:o.ExactDict)(j:o.data= .dict (l.map (EC w)).toArray ep)(y:ku RelV vs (l.map λx=>x.2.2))(k:(l.map λx=>x.1).Nodup)(ns:(a==bL)=au):
 vD P w K a ((l.map λx=>(.inr x.1:Key)).zip vs):=by
 refine⟨o,_,ep,_,N4 y,i,m,j,λe B=>?_,by simpa using Kx l,?_,ns⟩
 .have d:e∈l.map (EC w):=by simpa using B
  obtain⟨x,G,rfl⟩:=bJ.mp d;exact⟨.inr x.1,Gz x.1 x.2.1,rfl⟩
 .rw[dC];have:(l.map ((λx=>x.1)∘λx:Str×Tok×ai=>((.inr x.1:Key),x.2.2)))=(l.map λx=>x.1).map Sum.inr:=by rw[dC];rfl
  rw[this];exact lP _ (λa b h z=>h (kE z)) k
theorem Hd:∀ (f:List (Str×gY)) (h:dg) (i:List (Str×ay)) (x:Str) (c:ay),(d8 h.objs.size f i).lookup x=ae c->
 ((x,bz)∈f/\h.objs.size<=c/\(mI h f).IsCell c none)\/i.lookup x=ae c
 |[],_,_,_,_,e=> .inr e
 |(y,k)::r,h,i,x,c,e=>by
  unfold d8 at e;unfold mI
  by_cases hk:(k==bz)=aw
  .rw[aU hk]at e⊢;rw[<-bK h {cls:= .type "cell",data:= .cell none}]at e;rcases Hd r _ _ x c e with⟨a,b,d⟩|q
   .refine .inl ⟨aM _ a,?_,d⟩;rw[bK]at b;lia
   .rw[bh]at q
    cases j:x==y with
    |true=>
     rw[j]at q
     cases q
     have z:=eq_of_beq j;have B:k= .cell:=by simpa using hk
     subst z;subst B;exact .inl ⟨aG,am _,⟨_,jI _ _ _ _ (aq _ rfl),rfl⟩⟩
    |false=>rw[j]at q;exact .inr q
  .rw[aP hk]at e⊢;rcases Hd r h i x c e with⟨a,b,d⟩|q
   .exact .inl ⟨aM _ a,b,d⟩
   .exact .inr q
theorem Eu:∀ (a:List (Str×gY)) (n:Nat) (b:List (Str×ay)) (x:Str),(x,bz)∉a->(d8 n a b).lookup x=b.lookup x
 |[],_,_,_,_=>rfl
 |(d,k)::r,n,b,x,e=>by
  unfold d8;have i:(x,bz)∉r:=λz=>e (aM _ z)
  by_cases hk:(k==bz)=aw
  .rw[aU hk,Eu r _ _ x i,bh];have:(x==d)=au:=by
    cases q:x==d with
    |false=>rfl
    |true=>
     have j:=eq_of_beq q;have y:k= .cell:=by simpa using hk
     subst j;subst y;exact absurd aG e
   rw[this]
  .rw[aP hk];exact Eu r n b x i
theorem Ib:∀ (a:List (Str×gY)) (n:Nat) (b:List (Str×ay)) (x:Str),((x,bz)∈a\/∃c,b.lookup x=ae c/\n<=c)->∃c,(d8 n a b).lookup x=ae c/\n<=c
 |[],n,b,x,h=>by
  rcases h with z|z
  .cases z
  .exact z
 |(i,k)::r,n,b,x,h=>by
  unfold d8
  by_cases hk:(k==bz)=aw
  .rw[aU hk]
   by_cases d:(x,bz)∈r
   .obtain⟨c,e,l⟩:=Ib r (n+1) ((i,n)::b) x (.inl d);exact⟨c,e,by lia⟩
   .rw[Eu r _ _ x d,bh]
    cases j:x==i with
    |true=>exact⟨n,rfl,am _⟩
    |false=>
     rcases h with z|z
     .rcases aL.mp z with q|q
      .cases q;simp at j
      .exact absurd q d
     .exact z
  .rw[aP hk];refine Ib r n b x ?_;rcases h with z|z
   .rcases aL.mp z with q|q
    .cases q;exact absurd rfl hk
    .exact .inl q
   .exact .inr z
theorem Ic:∀ (f:List (Str×gY)) (n:Nat) (d:List (Str×ay)),(∀x y c,d.lookup x=ae c->d.lookup y=ae c->x=y)->(∀x c,d.lookup x=ae c->c<n)->
 ∀x y c,(d8 n f d).lookup x=ae c->(d8 n f d).lookup y=ae c->x=y
 |[],_,_,h,_=>h
 |(e,k)::r,n,d,h,i=>by
  unfold d8
  by_cases hk:(k==bz)=aw
  .rw[aU hk];refine Ic r (n+1) ((e,n)::d) (λx y c a b=>?_) λx c a=>?_
   .rw[bh]at a b
    cases j:x==e<;>cases z:y==e<;>rw[j]at a<;>rw[z]at b
    .exact h x y c a b
    .cases b;exact absurd (i x _ a) (ck _)
    .cases a;exact absurd (i y _ b) (ck _)
    .rw[eq_of_beq j,eq_of_beq z]
   .rw[bh]at a
    cases j:x==e<;>rw[j]at a
    .exact cq (i x c a)
    .cases a;exact cp _
  .rw[aP hk];exact Ic r n d h i
def U8{s:ak}{k:List (Str×ay)}{Q:Env->ak->Prop}
 (h:Q {scope:=scope,locals:=s.1.1.size,globals:=env.globals,cells:=d8 (s.1.1.size+1) scope.names k,qual:=env.qual,func:=none,code:=env.code,frame:=env.frame,builtins:=env.builtins}
   {s with heap:=mI (s.heap.push {cls:= .type "dict",data:= .dict #[]}) scope.names}):
 aO M A (newFunctionEnv scope env.globals k [] env.qual none .none (ae env)) Q E s:=by
 simp only[newFunctionEnv,lh,gG];refine ac (wpAny_alloc ?_);refine ac (wpAny_layCells _ (λd a c=>by cases b:a==bz<;>simp[b]) _ _ _ _ ?_);rw[show({s with heap:=s.heap.push {cls:= .type "dict",data:= .dict #[]}}:ak).heap.objs.size=s.1.1.size+1 from bK ..];rw[kx];exact ac (ah (ah h))
def B4(X:Cx)(own:hE)(sel:gk)(scope:ib)(k:List (Str×ay))(C:ay)(b:ak)(d:Hp)(h:List ay):Cx where
 d:=X.d
 w:=X.w
 K:=X.K
 h:=X.h
 f:=X.f
 A:=X.A
 N:=own++sel.map λj=>X.N.getD j cR
 j:=b
 l:=d
 a:=kX scope k C X.a
 g:=X.e
 e:=X.e
 k:=h
 i:=λx=>scope.names.lookup x==ae .cell
 calm:=X.calm
 pn:=[]
 xe:=λ_ _=>False
structure qU (osc:ib) (N:hE) (own:hE) (sel:gk) (scope:ib):Prop where
 a:scope.kind= .function
 e:∀y∈scope.names,y.2= .cell->scope.names.lookup y.1=ae .cell
 b:∀y∈scope.names,y.2= .local->scope.names.lookup y.1=ae .local
 d:∀y∈scope.names,y.2= .free->osc.names.lookup y.1=ae .cell\/osc.names.lookup y.1=ae .free
 c:∀j∈sel,j<N.length/\scope.names.lookup (N.getD j cR)=ae .free/\(osc.names.lookup (N.getD j cR)=ae .cell\/osc.names.lookup (N.getD j cR)=ae .free)
def KI{iter:dH}{pos:Pos}{use:Option (ai->Sem Unit)}
 (S:qU X.a.scope X.N own sel scope) (hc:X.calm=aw) (hi:PI X tg iter wi)
 (hg:∀t C M P E,PG (B4 X own sel scope t C M P E) tg g) (hk:GK own.length g)
 (ht:∀t C M P E,vB (B4 X own sel scope t C M P E) ifs tt) (he:∀t C M P E,PE (B4 X own sel scope t C M P E) elt te)
 (hs:∀x,cK iter X.a x=pure x) {pb:List (ay×Obj)} {s:ak} {O:pz} {H:Hp} {Q:VK} {ps:Pos} (I0:Inv X pb O H s) (h:GE own sel wi g tt te O H Q)
 (b7:∀ (D C:ay) (H':Hp) (s':ak) (m:Str->Option ai),Inv X pb O H' s'->s'.heap.Ns C m->yP X pb H' C->Q (.b D) H'->kW (aV X.d X.w) X.A X.xe use Qo (.ref D) C (.ok .next) s'):
 aO (aV X.d X.w) X.A (jb (.ListComp elt [⟨tg,iter,ifs,0⟩] scope pos) scope X.a ps (mK []) au (eval iter X.a) use) Qo X.xe s:=by
 obtain⟨d1,b6,R,σ⟩:=NH (scope:=scope) (env:=X.a) λy hy e=>I0.e.r y.1 (S.d y hy e);refine iN (use:=use) rfl hs b6 S.a S.b (pB (hi pb s O H _ I0 h) λv s1 h1=>pB h1 λf4 M h2=>?_);obtain⟨it,E,tn,J,P,e,I,T,a9,f2,h3⟩:=h2;subst e;clear h h1 I0;refine bX (U8 ?_)
 dsimp only
 generalize hP:M.heap.push {cls:= .type "list",dict:=none,data:= .seq ([]:List ai).toArray}=P1;generalize hD:M.1.1.size=D;generalize hC:P1.objs.size=C;have e8:C=D+1:=by rw[<-hC,<-hP,bK,hD]
 have U:D<C:=by rw[e8];exact cp D
 have e6:D≠C:=aT U;have a1:∀b:ay,b<D->b≠C:=λb B=>aT (eG B U);have c4:∀b:ay,b<D->b≠D:=λb B=>aT B;have b0:M.1.1.size<=D:=gi hD;have b1:M.1.1.size<=C:=bw b0 (bZ U);have oH:∀a,D<=a->P a=none:=λa ha=>I.a.J (by rw[hD];exact ha);have c7:P D=none:=oH D (am _);have d7:P C=none:=oH C (bZ U);have f:∀b o,M.heap.get? b=ae o->b<D:=λb o e=>by rw[<-hD];exact ax e
 generalize b3:mI (P1.push {cls:= .type "dict",data:= .dict #[]}) scope.names=h1;have a2:∀b o,P1.get? b=ae o->h1.get? b=ae o:=λb o e=>by rw[<-b3];exact jI _ _ b o (af _ e)
 have G:∀b o,M.heap.get? b=ae o->h1.get? b=ae o:=λb o e=>a2 b o (hP▸af _ e);have c6:h1.Ns C (λ_=>none):=by rw[<-b3,<-hC];exact(Heap.Ns.new P1 (.type "dict")).keeps (jI _ _)
 have gD:h1.get? D=ae {cls:= .type "list",dict:=none,data:= .seq ([]:List ai).toArray}:=by
  refine a2 _ _ ?_;rw[<-hP,<-hD];exact aq _ rfl
 have c0:(P1.push {cls:= .type "dict",data:= .dict #[]}).objs.size=C+1:=by rw[bK,hC]
 have e0:∀x c,d1.lookup x=ae c->c<D:=λx c e=>by
  obtain⟨u,o,z,_⟩:=I.h x c (R _ _ e);exact f c o z
 generalize a3:d8 (C+1) scope.names d1=t;have L:∀x c,t.lookup x=ae c->((x,bz)∈scope.names/\C+1<=c/\h1.IsCell c none)\/X.a.cells.lookup x=ae c:=λx c e=>by
  rw[<-a3,<-c0]at e;rcases Hd _ _ _ x c e with⟨a,b,d⟩|q
  .rw[c0]at b;rw[b3]at d;exact .inl ⟨a,b,d⟩
  .exact .inr (R _ _ q)
 have c8:∀x y c,t.lookup x=ae c->t.lookup y=ae c->x=y:=by
  rw[<-a3];exact Ic _ _ _ (λx y c a b=>I.e.q x y c (R _ _ a) (R _ _ b)) λx c e=>cq (eG (e0 x c e) U)
 have Z:∀x,(x,bz)∈scope.names->∃c,t.lookup x=ae c/\C+1<=c:=λx hx=>by rw[<-a3];exact Ib _ _ _ x (.inl hx)
 have b5:∀y∈scope.names,y.2= .free->∃c,t.lookup y.1=ae c:=λy hy e=>by
  by_cases hm:(y.1,bz)∈scope.names
  .obtain⟨c,q,_⟩:=Z _ hm;exact⟨c,q⟩
  .rw[<-a3,Eu _ _ _ _ hm];exact σ y hy e
 have c5:∀x,scope.names.lookup x=ae .free->∃c,t.lookup x=ae c/\X.a.cells.lookup x=ae c:=λx hx=>by
  have hm:(x,bz)∉scope.names:=λz=>by have:=S.e _ z rfl;rw[hx]at this;cases this
  obtain⟨c,q⟩:=σ _ (bM hx) rfl;exact⟨c,by rw[<-a3,Eu _ _ _ _ hm];exact q,R _ _ q⟩
 obtain⟨W,⟨m0,w0⟩,b9⟩:=h3 D c7;have a4:∀b∈E,b<D:=λb B=>by obtain⟨o,e,_⟩:=T.e _ _ a9 b B;exact f b o e
 generalize V:B4 X own sel scope t C M P E=Y;have hg:=hg t C M P E;have ht:=ht t C M P E;have he:=he t C M P E;rw[V]at hg ht he;have d4:Y.Z:=by
  subst V;refine⟨I.e.f,S.a,I.e.g,I.e.l,?_,c8,λx hx=>?_,λx c hf e=>?_,λz=>I.e.k z,I.e.e, .inl rfl,λb B=>⟨?_,λx c e=>?_⟩,I.bs,
   bw I.e.h I.sz,λb o e B=>?_,λb B z=>?_,I.stack,I.qH⟩
  .exact b1
  .have d6:(oi scope X.a).names.lookup x=ae .cell\/(oi scope X.a).names.lookup x=ae .free:=hx;have hf:scope.names.lookup x=ae .cell\/scope.names.lookup x=ae .free:=by
    rcases d6 with z|z
    .rcases EJ z with q|q
     .exact .inl q
     .exact .inr q
    .rcases EJ z with q|q<;>exact .inr q
   rcases hf with hf|hf
   .obtain⟨c,q,_⟩:=Z _ (bM hf);exact⟨c,q⟩
   .exact b5 _ (bM hf) rfl
  .have d9:scope.names.lookup x=ae .cell:=by
    have:(scope.names.lookup x==ae bz)=aw:=hf;exact eq_of_beq this
   obtain⟨c',q,l⟩:=Z x (bM d9);have e':t.lookup x=ae c:=e;rw[q]at e'
   cases e'
   exact bw b1 oZ
  .exact a1 b (a4 b B)
  .rcases L x c e with⟨_,l,_⟩|q
   .have:=a4 b B;intro z;subst z;exact absurd (aQ this (bZ U)) oZ
   .exact(f2 b B).2.2.2.2.1 x c q
  .rcases(f2 b B).2.2.2.1 with z|z
   .exact I.e.i b o e z
   .exact absurd (aQ (ax e) (bw I.e.h z)) (ck _)
  .rcases aL.mp (I.qO b z)with q|q
   .exact(f2 b B).2.1 q
   .exact(f2 b B).2.2.1 q
 have eo:pE X.d X.w (upd P D (.a [])) h1 D (.a []):=⟨by decide,[],_, .nil,gD⟩;have I1:Inv Y [] (AZ own sel O) (upd P D (.a [])) {M with heap:=h1}:=by
  subst V;refine⟨d4,rfl,I.d,Un.Z G b0 c7,⟨_,c6,λi x v e1 e2 e3=>?_⟩,λx c e=>?_,?_,λx c e=>?_,λp hp=>absurd (show p∈([]:List (ay×Obj))from hp) b',I.a.ap G b0 eo,?_⟩
  .obtain⟨k,j,ei,ej,es⟩:=Lq e2;subst ei;have a5:(own++sel.map λj=>X.N.getD j cR)[own.length+k]? =ae x:=e1;rw[cN oZ,ao,show own.length+k-own.length=k by lia,ej]at a5;simp only[jQ,fO]at a5;obtain⟨hj,b4,b2⟩:=S.c j (cE ej);have hN:X.N[j]? =ae x:=by rw[<-a5,ag,al hj];rfl
   rw[a5]at b2 b4;obtain⟨m,_,hl⟩:=I.j;obtain⟨u,r,lk⟩:=hl j x v hN es (.inr b2);refine⟨u,r, .inr ⟨Gd I.e.a b4,?_⟩⟩;rcases lk with⟨z1,_⟩|⟨_,c,e5,e4⟩
   .have d2:X.a.scope.names.lookup x=ae .local:=z1;rcases b2 with q|q<;>(rw[d2]at q;cases q)
   .obtain⟨c',q,q2⟩:=c5 _ b4;rw[e5]at q2
    cases q2
    exact⟨c,q,e4.keeps G⟩
  .rcases L x c e with⟨_,_,z⟩|q
   .exact⟨_,z⟩
   .obtain⟨u,z⟩:=I.h x c q;exact⟨u,z.keeps G⟩
  .show upd P D (.a []) C=none;rw[AG (cV e6)];exact d7
  .show upd P D (.a []) c=none;rcases L x c e with⟨_,l,_⟩|q
   .have c9:D<c:=aQ U oZ;rw[AG (cV (aT c9))];exact oH c (bZ c9)
   .obtain⟨u,o,z,_⟩:=I.h x c q;rw[AG (c4 c (f c o z))];exact I.f x c q
  .show(AZ own sel O).length=(own++sel.map λj=>X.N.getD j cR).length;rw[Lr];simp
 have b7:∀ (b8:pz) (H':Hp) (s':ak),Inv Y [] b8 H' s'->Q (.b D) H'->kW (aV X.d X.w) X.A X.xe use Qo (.ref D) C (.ok .next) s':=by
  intro b8 H' s' I' q;subst V;obtain⟨m,hn,_⟩:=I'.j;have J':Inv X pb O H' s':=I.uy I'.n I'.b I'.a I'.d λb B=>⟨(f2 b B).2.2.2.1,(f2 b B).2.1,(f2 b B).2.2.2.2.1,(f2 b B).2.2.2.2.2⟩;refine b7 D C H' s' m J' hn ⟨I'.g,cV (a1 _ (by rw[<-hD];exact I.lt)),bw I.sz b1,λx c e=>?_,λp hp=>?_⟩ q
  .obtain⟨u,o,z,_⟩:=I.h x c e;exact a1 c (f c o z)
  .exact a1 p.1 (f p.1 p.2 (I.k p hp).1)
 have a0:∀ {H':Hp},(∀b∈E,H' b=none)->∀b∈E,BZ Y [] H' b:=fun{H'} hn b B=>by
  subst V;refine⟨hn b B,a1 b (a4 b B),λz=>?_, .inl B,λx c e=>?_,λp hp=>absurd (show p∈([]:List (ay×Obj))from hp) b'⟩
  .rcases aL.mp (I.qO b z)with q|q
   .exact(f2 b B).2.1 q
   .exact(f2 b B).2.2.1 q
  .rcases L x c e with⟨_,l,_⟩|q
   .have:=a4 b B;intro z;subst z;exact absurd (aQ this (bZ U)) oZ
   .exact(f2 b B).2.2.2.2.1 x c q
 have a6:∀s3:ak,s3={M with heap:=h1}->
  dM (aV X.d X.w) X.A (.compLoop (.ListComp elt [⟨tg,iter,ifs,0⟩] scope pos) 0 (.ref it) (.ref D) (kX scope t C X.a)) (kW (aV X.d X.w) X.A X.xe use Qo (.ref D) C) s3:=by
  rintro s3 rfl;have eP:Y.d=X.d:=by subst V;rfl
  have eW:Y.w=X.w:=by subst V;rfl
  have eA:Y.A=X.A:=by subst V;rfl
  have eK:Y.K=X.K:=by subst V;rfl
  have eE:Y.a=kX scope t C X.a:=by subst V;rfl
  have eX:Y.xe=λ_ _=>False:=by subst V;rfl
  have eC:Y.calm=aw:=by subst V;exact hc
  refine Ru (λn s'=>∃i H',Inv Y [] (AZ own sel O) H' s'/\tn i s'.heap/\(∀b∈E,H' b=none)/\W i n H') ?_ m0
   ⟨0,_,I1,T.a _ _ _ a9 λb _ o e=>G b o e,λb B=>by rw[AG (c4 b (a4 b B))];exact(f2 b B).1,w0⟩
  rintro n s4 ⟨i,H4,I4,c3,d0,w4⟩;rcases b9 i n H4 w4 with⟨c1,q⟩|⟨go,c2⟩
  .have dn:=T.d Y eP eW eK eC i [] s4 _ H4 (λ_ _=>False) I4 (a0 d0) c3 c1;rw[eA]at dn;refine pB dn λr s5 z_=>?_;obtain⟨hr,I5⟩:=z_;subst hr;exact b7 _ _ _ I5 q
  .have im:=T.c Y eP eW eK eC i [] s4 _ H4 (λ_ _=>False) I4 (a0 d0) c3 go;rw[eA]at im;refine pB im λr s5 z_=>?_;obtain⟨u,hr,h5⟩:=z_;subst hr;refine pB h5 λ_ s6 z_=>?_;obtain⟨x,H6,I6,r6,y6,a8,e9⟩:=z_;have f0:=I6.pinned (a0 e9) (T.e _ _ a8);have a7:∀ {σ7:pz} {H7:Hp} {s7:ak} {k:Nat},Inv Y ([]++DX E s6.heap) σ7 H7 s7->σ7.length=(AZ own sel O).length->(∀j,own.length<=j->σ7[j]? =(AZ own sel O)[j]?)->(∃m',m'<n/\W (i+1) m' H7)->
    ∃m',m'<n/\∃i H',Inv Y [] (AZ own sel O) H' s7/\tn i s7.heap/\(∀b∈E,H' b=none)/\W i m' H':=fun{σ7 H7 s7 k} I7 l7 k7 w7=>by
    obtain⟨m',hm,w7⟩:=w7;refine⟨m',hm,i+1,H7,I7.qt.weak l7.symm λj v e=>?_,T.a _ _ _ a8 λb B o e=>(I7.k (b,o) (aX _ (aX _ (C8 B e)))).1,λb B=>?_,w7⟩
    .by_cases hj:j<own.length
     .rw[Fd hj]at e;cases e
     .rw[k7 j (jp hj)];exact e
    .obtain⟨o,e,d⟩:=T.e _ _ a8 b B;exact(I7.k (b,o) (aX _ (aX _ (C8 B e)))).2.1
   have ga:=hg _ s6 _ H6 x u _ f0 r6 (hk _ _ _ _ (c2 x H6 y6));rw[eP,eW,eA,eE,eX]at ga;refine pB ga λ_ s7 z_=>?_;obtain⟨σ7,H7,I7,q7,l7,k7⟩:=z_;have ta:=ht _ s7 σ7 H7 _ I7 q7;rw[eP,eW,eA,eE,eX]at ta;refine pB ta λb s8 z_=>?_;obtain⟨H8,I8,q8⟩:=z_
   cases b with
   |false=>
    rw[aP av]at q8⊢;exact a7 (k:=0) I8 l7 k7 q8
   |true=>
    rw[aU rfl]at q8⊢;have ea:=he _ s8 σ7 H8 _ I8 q8;rw[eP,eW,eA,eE,eX]at ea;refine pB ea λv s9 z_=>?_;obtain⟨x9,H9,I9,r9,ys,e7,d5,q9⟩:=z_;have aa:=B7 (X:=Y) _ s9 σ7 H9 (.b D) [x9] (.ref D) [v] (λ_ H'=>∃m',m'<n/\W (i+1) m' H') I9 rfl (.cons r9 .nil) ⟨D,ys,x9,rfl,rfl,e7,d5,q9⟩;rw[eP,eW,eA,eX]at aa;exact pB aa λ_ f3 ⟨_,f5,f1,_,d3⟩=>a7 (k:=0) f1 l7 k7 d3
 exact jx (a6 _ rfl) (T.f X.A 0 _ _ _ (T.a _ _ _ a9 λb _ o e=>G b o e) (a6 _ rfl))
def BE{iter:dH}{pos:Pos}
 (S:qU X.a.scope X.N own sel scope) (e:X.calm=aw) (v:PI X tg iter wi)
 (O:∀c C b d a,PG (B4 X own sel scope c C b d a) tg g) (u:GK own.length g)
 (l:∀c C b d a,vB (B4 X own sel scope c C b d a) ifs tt) (i:∀c C b d a,PE (B4 X own sel scope c C b d a) elt te)
 (j:(∀x,cK iter X.a x=pure x)<|>q0):
 PE X (.ListComp elt [⟨tg,iter,ifs,0⟩] scope pos) (GE own sel wi g tt te):=by
 intro o s n H Q I h;rw[eval_ListComp];refine KI (use:=none) S e v O u l i j I h λD C y G m z B f q=>?_;exact⟨m,B,λJ k=>⟨.b D,y,z.yG f k,rfl,q⟩⟩
set_option tactic.hygienic true in
def Gf{i:Nat}{spos:Pos}{iter:dH}{pos:Pos}
 (G:X.N.Nodup) (j:X.N[i]? =ae x) (J:Loc X.a.scope x)
 (S:qU X.a.scope X.N own sel scope) (L:X.calm=aw) (p:PI X tg iter wi)
 (r:∀l C b d c,PG (B4 X own sel scope l C b d c) tg g) (O:GK own.length g)
 (u:∀l C b d c,vB (B4 X own sel scope l C b d c) ifs tt) (M:∀l C b d c,PE (B4 X own sel scope l C b d c) elt te)
 (P:(∀x,cK iter X.a x=pure x)<|>q0)
 (y:gZ (.ListComp elt [⟨tg,iter,ifs,0⟩] scope pos) (ae (.Name x pos')) spos.line X.a=pure true<|>n')
 (Q:X.i x=aw\/X.a.scope.names.lookup x=ae .local<|>qz):
 PS X (.Assign [.Name x pos'] (.ListComp elt [⟨tg,iter,ifs,0⟩] scope pos) spos) (CN (GE own sel wi g tt te) (BK i)):=by
 intro n s w H R I h;rw[jJ _ _ _ _ y];refine ac (dF (ac ?_));show aO _ X.A (do let _<-jb (.ListComp elt [⟨tg,iter,ifs,0⟩] scope pos) scope X.a _ (mK []) au (eval iter X.a) (ae (iB (.Name x pos') X.a))) _ _ s;refine ac (bi (KI (use:=ae (iB (.Name x pos') X.a)) (Qo:=λ_ z=>SP X n R .next z) S L p r O u M P I h λD C T z m U Y f q=>?_) (λ_ z Z=>ah (ah Z)) λ_ _ e=>e);show aO _ X.A (iB (.Name x pos') X.a (.ref D)) _ _ _;refine iO (Gw (v:=V.b D) U G j J rfl (λb t E=>?_) Q);obtain⟨a,k,ha⟩:=E;have B:C≠a:=by
  rcases ha with rfl|ha
  .exact f.a
  .exact cV (f.b x a ha)
 exact⟨m,Y.sameBut k B,λE o=>⟨_,T,t.yG f o,q⟩⟩
end
section
variable{Q:VK}{E:XK}
def WZ(a:List α)(h k:Option Int):(Aq a h k).length<=a.length:=N9 a h k
def DP{k:Int}(h:AR k a=aw):∀c∈a,c∈sgn k:=by
 unfold AR at h;simp only[aW,a',bD]at h;exact h.2
def Ea{k:Int}(b:a.length<=40)(h:∀c∈a,c∈sgn k):AR k a=aw:=by
 unfold AR;simp only[aW,a',bD];exact⟨b,h⟩
def Ec(xs:List α)(i:Nat):Aq xs (ae (i:Int)) none=xs.drop i:=by
 unfold Aq;rw[sE,rE];rcases n6 i xs.length with h|h
 .rw[io h,dS (by rw[jq];lia)]
 .rw[mn h,jC (am _),jC h];simp
def vv:gk:=[40,91,123,60,63,62,125,93,41]
def uN(c:Nat):Nat:=if c=40 then 41 else if c=91 then 93 else if c=123 then 125 else if c=60 then 62 else if c=41 then 40 else if c=93 then 91 else if c=125 then 123 else if c=62 then 60 else c
def ub(a:gk):gk:=a.reverse.map uN
def MJ(a:gk):(ub a).length=a.length:=by simp[ub]
def PL(h:c∈vv):c=40\/c=91\/c=123\/c=60\/c=63\/c=62\/c=125\/c=93\/c=41:=by simpa[vv]using h
def O6{k:Int}(h:c∈sgn k):c∈vv:=by
 unfold sgn at h;rcases cS.mp h with z|z
 .rcases cS.mp z with z|z
  .have:=fR z;have:c=40\/c=91\/c=123\/c=60:=by simpa[qP]using this
   rcases this with rfl|rfl|rfl|rfl<;>decide
  .have:=fR z;have:c=41\/c=93\/c=125\/c=62:=by simpa[cls]using this
   rcases this with rfl|rfl|rfl|rfl<;>decide
 .rw[aS.mp z];decide
def V8{k:Int}(d:1<=k)(e:k<=4)(h:c∈sgn k):uN c∈sgn k:=by
 have hk:k=1\/k=2\/k=3\/k=4:=by lia
 have b:=PL (O6 h);rcases hk with rfl|rfl|rfl|rfl<;>rcases b with rfl|rfl|rfl|rfl|rfl|rfl|rfl|rfl|rfl<;>revert h<;>decide
def Su{k:Int}(e:1<=k)(i:k<=4)(h:AR k a=aw):AR k (ub a)=aw:=by
 refine Ea (by rw[MJ];exact Ai h) λc b=>?_;unfold ub at b;obtain⟨d,f,rfl⟩:=bJ.mp b;exact V8 e i (DP h d (List.mem_reverse.mp f))
inductive ui:Type
 |mk (c:_) (_:vs=[tx [c]]) (_:c∈vv) (_:Q (tx [uN c]) H)
def SU(h:c∈vv)(q:Q (tx [uN c]) H):ui ([tx [c]]++[]) H Q E:=⟨c,rfl,h,q⟩
inductive sU:Type
 |mk (k a:_) (_:vs=[.a k,tx a]) (_:1<=k) (_:k<=4) (_:AR k a=aw) (_:∀H',pj H H'->Q (tx (ub a)) H')
def Jy{k:Int}(d:1<=k)(e:k<=4)(i:AR k a=aw)(q:∀b,pj H b->Q (tx (ub a)) b):sU ([.a k,tx a]++[]) H Q E:=⟨k,a,rfl,d,e,i,q⟩
def Ew{l:gk}{i:Int}(h:0<=i)(d:i<(l.length:Int)):∃c,pY l i=ae c/\c∈l:=by
 have hk:i.toNat<l.length:=by lia
 have b:i=((i.toNat:Nat):Int):=by lia
 have q:pY l ((i.toNat:Nat):Int)=ae l[i.toNat]:=AU (al hk);rw[<-b]at q;exact⟨_,q,d2 hk⟩
def WY{a:List α}{k l:Option Int}{c:α}(h:c∈Aq a k l):c∈a:=by
 unfold Aq at h;exact List.mem_of_mem_drop (fR h)
def ET(l:gk):(l.map λc=>[c]).flatten=l:=by
 induction l with
 |nil=>rfl
 |cons c r b=>rw[aY,cu,b];rfl
end
section
variable{c i:Int}{ta:TA}{tget:V->V->Hp->VK->Prop}{Q:VK}
section
variable{O:pz}
set_option tactic.hygienic true in
def U1{a:ay}(f:V->V)(Y:xs.length<=sizeLine)(P:H a=ae (.a xs))
 (S:∀D d,H D=none->pj H d->d D=ae (.a (xs.map f))->Q (.b D) d)
 (Z:∀ (D:ay) (i:Nat) (x:V) (d:Hp) (R:V->Hp->Prop),H D=none->xs[i]? =ae x->pj H d->(∀y,pj d y->R (f x) y)->g x (AZ own sel O) d λc J=>te c J R):BV (uA K a) own sel O g qe te Q H:=by
 refine DG (n:=xs.length) (λD i j d=>j=(xs.take i).map f/\pj H d) (λD I=>⟨rfl,AL I _⟩) (λD i j d I h M ⟨_,B⟩=>⟨xs,xs[i],pq.J (B _ _ P),al h⟩) (λD j d I M T ⟨e,B⟩=>⟨⟨_,pq.J (B _ _ P),am _⟩,S D d I B (by rw[M,e,dZ])⟩) ?_;rintro D i j d x m I h M T ⟨e,B⟩ ⟨rfl,k⟩;have L:=k _ (pq.J (B _ _ P));have l:(fun(c:pz) (J:Hp)=>qe c J λb U=>if b=aw then te c U λv y=>∃j,y D=ae (.a j)/\j.length<sizeLine/\∃G,G<xs.length-i/\CW D xs.length (λi j d=>j=(xs.take i).map f/\pj H d) (i+1) G (upd y D (.a (j++[v])))else∃G,G<xs.length-i/\CW D xs.length (λi j d=>j=(xs.take i).map f/\pj H d) (i+1) G U)
  =λc J=>te c J λv y=>∃j,y D=ae (.a j)/\j.length<sizeLine/\∃G,G<xs.length-i/\CW D xs.length (λi j d=>j=(xs.take i).map f/\pj H d) (i+1) G (upd y D (.a (j++[v]))):=by
  funext c J
  simp only[qe,gG]
 rw[l];refine Z D i x m _ I L B λy X=>?_;refine B8 h Y (X _ _ M) T ⟨?_,λb o z=>?_⟩
 .rw[e,cL,L,b0];rfl
 .rw[AG (AQ z I)];exact X _ _ (B _ _ z)
end
def DO(h c:Int)(n:Nat):qo:=⟨λi _=>i<n,λi H x b=>b=H/\x= .a (h+i*c),λi _=>n<=i⟩
def Qg(l:ay)(m c:Int)(n:Nat):Turn P w K tg (DO m c n) [l] l (λi h=>kK h l (m+(i:Nat)*c) ((n:Int)-(i:Nat)) c) where
 g:=by simp
 e:=λi h d b j=>by
  obtain rfl:b=l:=by simpa using j
  exact⟨_,d,λv z=>by
   have Z:oE _=Data.cell v:=z
   cases Z⟩
 a:=λi h y d k=>k l b' _ d
 c:=by
  intro X G J L M i g s f H E I B d a;subst G J L;obtain⟨Q,R,r,S,T,U⟩:=B l b';have W:=ot (prog:=X.d) (w:=X.w) (I.e.k M) l m c n;refine W.item i s _ _ a d λv y Y q x p=>?_;obtain⟨t,rfl⟩:=q;have A:Inv X g f H {s with heap:=y,toks:=Y}:=I.turned (λb o j e=>p b o (by simpa using j) e) Q R S T U;exact⟨_,rfl,EA (s:={s with heap:=y,toks:=Y}) (n:="range_iterator") x rfl rfl oY ⟨.a (m+i*c),H,A,⟨t,rfl⟩,⟨rfl,rfl⟩,x,λb j=>(B b j).1⟩⟩
 d:=by
  intro X G J L M i g s f H E I B d a;subst G J L;obtain⟨Q,R,r,S,T,U⟩:=B l b';exact jt (I.e.k M) d (by have:n<=i:=a;lia) λy u=>⟨rfl,I.turned (t':=s.toks) (λb o j e=>u b o j e) Q R S T U⟩
 f:=λ_ _ _ _ _ d h=>jv d h
def rN(a b c:Int):Nat:=(cM a b c).toNat
def SJ{O:pz}{s:ak}{R:qo->Hp->Prop}{h:Int}{t u v:Tok}{k:Nat}(I:Inv X pb O H s)(i:dy lo h c=aw)
 (q:R (DO lo c (rN lo h c)) H):aO (aV X.d X.w) X.A (jl (.ref s.1.1.size)) (yJ X pb O tg R) E {s with heap:=s.heap.push {cls:= .type "range",data:= .fields #[.int lo t, .int h u, .int c v]},toks:=k}:=by
 refine kP (oB ..) i ?_;have d:Inv X pb O H {s with heap:=s.heap.push {cls:= .type "range",data:= .fields #[.int lo t, .int h u, .int c v]},toks:=k}:=I.ap λb o e=>af _ e;refine⟨(s.heap.push {cls:= .type "range",data:= .fields #[.int lo t, .int h u, .int c v]}).objs.size,[(s.heap.push {cls:= .type "range",data:= .fields #[.int lo t, .int h u, .int c v]}).objs.size],_,_,H,rfl,
  d.ap (t':=k) λb o e=>af _ e,Qg _ lo c (rN lo h c),?_,λb j=>?_,q⟩
 .have x:lo+((0:Nat):Int)*c=lo:=by simp
  have y:((rN lo h c:Nat):Int)-((0:Nat):Int)=cM lo h c:=by unfold rN;rw[<-rangeSize_toNat];simp
  show kK _ _ (lo+((0:Nat):Int)*c) (((rN lo h c:Nat):Int)-((0:Nat):Int)) c;rw[x,y];exact aq _ rfl
 .obtain rfl:b=(s.heap.push {cls:= .type "range",data:= .fields #[.int lo t, .int h u, .int c v]}).objs.size:=by simpa using j
  exact d.sJ (am _) (d.a.J (am _))
def OZ(b:TA):TI:=λa H R=>b a H λvs d=>∃i j c:Int,vs=[.a i, .a j, .a c]/\(c≠0/\c.natAbs<1000/\dy i j c=aw)/\R (DO i c (rN i j c)) d
def B6{a b c:dH}{p pos:Pos}(l:Gl X "range")(z:X.h "range"=none)(B:PA X [a,b,c] ta)(G:aI [a,b,c] X.a=[(au,eval a X.a),(au,eval b X.a),(au,eval c X.a)]<|>n')(d:aI [b,c] X.a=[(au,eval b X.a),(au,eval c X.a)]<|>n'):
 PI X tg (.Call (.Name "range" p) [a,b,c] [] pos) (OZ ta):=by
 intro k s g H R I h;refine Call_ (CL I l z boot_range (bN (zQ (B pos k s g H _ I h) λS T m U J L x=>?_) (by rw[G,d]) (by rw[d];rfl)));obtain⟨i,j,c,e,⟨x,Y,M⟩,q⟩:=x;subst e
 cases L with
 |cons r f=>
  cases f with
  |cons P f=>
   cases f with
   |cons y f=>
    cases f
    obtain⟨t,rfl⟩:=r;obtain⟨Z,rfl⟩:=P;obtain⟨Q,rfl⟩:=y;exact call_range_3 x (SJ J M q) (lY (jA oZ))
def CT{a b:Int}(i:0<=a)(d:a<=1000)(j: -1000<=b)(e:b<=1000):dy a b 2=aw:=by
 unfold dy cM;simp only[fJ,aW,ce,bD,bP,show(2:Int)>0 by decide,gG]
 split<;>omega
def J2{a b:Int}(d:c= -1\/c= -2)(j: -1000<=a)(e:a<=1000)(x: -1000<=b)(i:b<=1000):dy a b c=aw:=by
 unfold dy cM;rcases d with rfl|rfl
 .simp only[fJ,aW,ce,bD,bP,show¬ ((-1:Int)>0) by decide,gX,mW]
  split<;>omega
 .simp only[fJ,aW,ce,bD,bP,show¬ ((-2:Int)>0) by decide,gX,mW]
  split<;>omega
def Ca(a b:Int):rN a b 2=((b-a+1)/2).toNat:=by
 unfold rN cM;simp only[show(2:Int)>0 by decide,gG]
 split<;>lia
def Md(a b:Int):rN a b (-1)=(a-b).toNat:=by
 unfold rN cM;simp only[show¬ ((-1:Int)>0) by decide,gX,mW]
 split<;>lia
def O8(K:aB):gr->Hp->VK->Prop:=λb H Q=>∃ (p:ay) (ns:hO),b=[.b p]/\pq K H p (ns.map V.a)/\Q (.a ns.sum) H
def FT(K:aB)(x:X.calm=aw)(y:X.K=K<|>n'):pH X (.builtin "sum") (O8 K):=by
 subst y;intro f s c H d P Q I r h;obtain⟨p,ns,rfl,B,q⟩:=h;obtain⟨u,rfl,G⟩:=vals1 r
 cases G
 obtain⟨J,a,ht,R⟩:=I.J B;have hi:=KB a;obtain⟨d,e⟩:=hi.allInts.items;have i:ns=d.toList.map (·.1):=by rw[<-hi.numsOf,<-nums_intItems,<-e]
 have j:=ht.isList;rw[e]at j;refine sum_intListG (I.e.k x) j λS T L hk=>?_;have M:preSum (numAt d) d.size=ns.sum:=by
  rw[preSum_eq,dS b',i]
 rw[M];exact⟨.a ns.sum,H,I.ap λb o z=>hk b o z,⟨L,rfl⟩,q⟩
def OS(K:aB):gr->Hp->VK->Prop:=λd H Q=>∃p b,d=[.b p]/\(pq K H p b\/pX K H p b)/\∀l,H l=none->Q (.b l) (upd H l (.a b))
def Rz(K:aB)(b:X.K=K<|>n'):pH X (.type "list") (OS K):=by subst b;exact Qc
def OT(K:aB):V->V->Hp->VK->Prop:=λx y H Q=>∃p b,∃ (j:Nat),∃v,x= .b p/\y= .a j/\pq K H p b/\b[j]? =ae v/\Q v H
def ES(K:aB)(e:X.K=K<|>n'):Pa X (OT K):=by
 subst e;intro c s a H o i M P Q I x y h;obtain⟨p,R,j,z,rfl,rfl,B,d,q⟩:=h
 cases x
 obtain⟨t,rfl⟩:=y;obtain⟨G,r,J,S⟩:=I.J B;obtain⟨w,L,b⟩:=r.ld d;have T:=r.J;have U:=qk;have Y:=(aR.mp d).1;exact wpAny_getItem_list J.isList oZ oZ (by simpa using L) ⟨z,H,I,b,q⟩
section
variable{O:pz}
def VT{R:qo->Hp->Prop}(h:ta O H λvs b=>∃i j c:Int,vs=[.a i, .a j, .a c]/\(c≠0/\c.natAbs<1000/\dy i j c=aw)/\R (DO i c (rN i j c)) b):OZ ta O H R:=h
def GF(b:pq K H p (ns.map V.a))(h:Q (.a ns.sum) H):O8 K [.b p] H Q:=⟨p,ns,rfl,b,h⟩
def VQ{ys:gr}(b:pq K H p ys)(h:∀l,H l=none->Q (.b l) (upd H l (.a ys))):OS K [.b p] H Q:=⟨p,ys,rfl, .inl b,h⟩
def Xj{m q:TE}{l:wB}{k:tW}(h:m O H λo b=>q O b λi d=>tget o i d λx e=>te O e λy j=>l x y j λz B=>k o i z B λG=>D.nx O G):OH m q te tget l k D O H:=h
def El{v:V}(b:pq K H p xs)(d:xs[j]? =ae v)(h:Q v H):OT K (.b p) (.a j) H Q:=⟨p,xs,j,v,rfl,rfl,b,d,h⟩
def Uu(h:Nat->pz->Hp->Prop)(l:h 0 O H)
 (b:∀i O H,i<n->h i O H->g (.a (lo+i*c)) O H λa d=>tb {D with nx:=h (i+1),b:=h (i+1),c:=D.nx} a d) (k:∀O H,h n O H->D.nx O H):CF (DO lo c n) g tb D O H:=
 GA (n:=n) h l (λi O H f _=>f) (λO H _=>am _) (λi x O H e f p y=>by obtain⟨rfl,rfl⟩:=y;exact b i O _ f p) k
end
def UJ(scope osc:ib):ib:={scope with names:=scope.names.map fun(n,k)=>if(k== .free&&osc.kind== .function&&osc.names.lookup n==ae .cell)then(n, .cell)else(n,k)}
def Hc(osc:ib)(N:hE)(own:hE)(sel:gk)(scope:ib):Bool:=
 (scope.kind== .function)&&scope.names.all (λy=>y.2 != .cell||scope.names.lookup y.1==ae .cell)&&scope.names.all (λy=>y.2 != .local||scope.names.lookup y.1==ae .local)&&
 scope.names.all (λy=>y.2 != .free||osc.names.lookup y.1==ae .cell||osc.names.lookup y.1==ae .free)&&
 sel.all (λj=>decide (j<N.length)&&scope.names.lookup (N.getD j cR)==ae .free&&(osc.names.lookup (N.getD j cR)==ae .cell||osc.names.lookup (N.getD j cR)==ae .free))
def A9{osc:ib}{N:hE}(h:Hc osc N own sel scope=aw):qU osc N own sel scope:=by
 unfold Hc at h;simp only[aW,a']at h;obtain⟨⟨⟨⟨d,i⟩,x⟩,z⟩,B⟩:=h;refine⟨by simpa using d,λy b e=>?_,λy b e=>?_,λy b e=>?_,λj G=>?_⟩
 .have:=i y b;simp only[ce,j9,bP]at this;rcases this with q|q
  .exact absurd e q
  .exact q
 .have:=x y b;simp only[ce,j9,bP]at this;rcases this with q|q
  .exact absurd e q
  .exact q
 .have:=z y b;simp only[ce,j9,bP]at this;rcases this with(q|q)|q
  .exact absurd e q
  .exact .inl q
  .exact .inr q
 .have:=B j G;simp only[ce,bP,bD]at this;exact⟨this.1.1,this.1.2,this.2⟩
def big:Nat:=2^10000
def MC(h:i.natAbs<big):kO i<=2^20:=by
 refine bw (?_ :kO i<=10000) oY;exact PySem.intBits_le_iff.mpr h
def ur:R2:=λx y H Q=>(∃i j,x= .a i/\y= .a j/\(i.natAbs<big/\j.natAbs<big)/\Q (.a (i*j)) H)\/wQ x y H Q\/OQ x y H Q
def vX:pZ X (eN .Mult) (rI (λi j=>i.natAbs<big/\j.natAbs<big) λi j=> .a (i*j)):=xh λ_ _ _ _ _ _ _ b q=>mul_int q (PySem.IntMulOk.of_bits (MC b.1) (MC b.2))
def Be:pZ X (eN .Mult) ur:=vX.J (vo.J Mo)
section
variable{O:pz}
def Bl{j:Int}(b:i.natAbs<big)(d:j.natAbs<big)(h:Q (.a (i*j)) H):ur (.a i) (.a j) H Q:= .inl ⟨i,j,rfl,rfl,⟨b,d⟩,h⟩
set_option tactic.hygienic true in
def Ed{J:qo}(f:Nat->V)(A:n<=sizeLine)(h:ay->Nat->gr->Hp->Prop)
 (S:∀i j,i<n->pj H j->J.d i j) (T:∀j,pj H j->J.a n j) (N:∀i I x j,i<n->pj H I->J.c i I x j->j=I/\x=f i)
 (C:∀D,H D=none->h D 0 [] (upd H D (.a []))) (k:∀D i d I u,H D=none->h D i d I->pf D I u->h D i d u)
 (U:∀D d j,H D=none->j D=ae (.a d)->d.length=n->pj H j->h D n d j->Q (.b D) j)
 (σ:∀ (D:ay) (i:Nat) (d:gr) (j:Hp) (R:V->Hp->Prop),H D=none->i<n->j D=ae (.a d)->d.length=i->pj H j->h D i d j->(∀v y,pj j y->h D (i+1) (d++[v]) y->R v y)->
   g (f i) (AZ own sel O) j λa M=>te a M R):BV J own sel O g qe te Q H:=by
 refine DG (n:=n) (λD i d j=>d.length=i/\pj H j/\h D i d j) (λD G=>⟨rfl,AL G _,C D G⟩) (λD i d j G c _ ⟨_,L,_⟩=>S i j c L)
  (λD d j G X q ⟨e,L,Y⟩=>⟨T j L,U D d j G X e L Y⟩) ?_
 rintro D i d I x t G c P q ⟨r,L,Y⟩ w;obtain⟨rfl,rfl⟩:=N i I x t c L w;have Z:=σ D i d t (λv y=>∃d,y D=ae (.a d)/\d.length<sizeLine/\∃B,B<n-i/\CW D n (λi d j=>d.length=i/\pj H j/\h D i d j) (i+1) B (upd y D (.a (d++[v])))) G c P r L Y (λv y p l=>?_)
 .have E:(fun(a:pz) (M:Hp)=>qe a M λb s=>if b=aw then te a s λv y=>∃d,y D=ae (.a d)/\d.length<sizeLine/\∃B,B<n-i/\CW D n (λi d j=>d.length=i/\pj H j/\h D i d j) (i+1) B (upd y D (.a (d++[v])))
   else∃B,B<n-i/\CW D n (λi d j=>d.length=i/\pj H j/\h D i d j) (i+1) B s)=λa M=>te a M λv y=>∃d,y D=ae (.a d)/\d.length<sizeLine/\∃B,B<n-i/\CW D n (λi d j=>d.length=i/\pj H j/\h D i d j) (i+1) B (upd y D (.a (d++[v]))):=by
   funext a M
   exact propext ⟨λz=>by have m:=z;simp only[qe]at m;simpa using m,λz=>by show qe _ _ _;simp only[qe];simpa using z⟩
  rw[E];exact Z
 .refine B8 c A (p _ _ P) q ⟨by simp[r],λb o z=>?_,k D _ _ _ _ G l pf.ap⟩;rw[AG (AQ z G)];exact p b o (L b o z)
def Hg(G:n<=sizeLine)(h:ay->Nat->gr->Hp->Prop)
 (l:∀D,H D=none->h D 0 [] (upd H D (.a []))) (k:∀D i d e B,H D=none->h D i d e->pf D e B->h D i d B)
 (j:∀D d b,H D=none->b D=ae (.a d)->d.length=n->pj H b->h D n d b->Q (.b D) b)
 (I:∀ (D:ay) (i:Nat) (d:gr) (b:Hp) (R:V->Hp->Prop),H D=none->i<n->b D=ae (.a d)->d.length=i->pj H b->h D i d b->(∀v z,pj b z->h D (i+1) (d++[v]) z->R v z)->
   g (.a (lo+i)) (AZ own sel O) b λa J=>te a J R):BV (uS lo n) own sel O g qe te Q H:=
 Ed (λi=> .a (lo+i)) G h (λi b c _=>c) (λb _=>am _) (λi e x b _ _ y=>y) l k j I
def Tn(G:n<=sizeLine)(h:ay->Nat->gr->Hp->Prop)
 (l:∀D,H D=none->h D 0 [] (upd H D (.a []))) (k:∀D i d e B,H D=none->h D i d e->pf D e B->h D i d B)
 (j:∀D d b,H D=none->b D=ae (.a d)->d.length=n->pj H b->h D n d b->Q (.b D) b)
 (I:∀ (D:ay) (i:Nat) (d:gr) (b:Hp) (R:V->Hp->Prop),H D=none->i<n->b D=ae (.a d)->d.length=i->pj H b->h D i d b->(∀v z,pj b z->h D (i+1) (d++[v]) z->R v z)->
   g (.a (lo+i*c)) (AZ own sel O) b λa J=>te a J R):BV (DO lo c n) own sel O g qe te Q H:=
 Ed (λi=> .a (lo+i*c)) G h (λi b f _=>f) (λb _=>am _) (λi e x b _ _ y=>y) l k j I
def Hf(I:a.length<=sizeLine)(h:ay->Nat->gr->Hp->Prop)
 (m:∀D,H D=none->h D 0 [] (upd H D (.a []))) (k:∀D i d j G,H D=none->h D i d j->pf D j G->h D i d G)
 (z:∀D d b,H D=none->b D=ae (.a d)->d.length=a.length->pj H b->h D a.length d b->Q (.b D) b)
 (J:∀ (D:ay) (i:Nat) (d:gr) (b:Hp) (R:V->Hp->Prop),H D=none->i<a.length->b D=ae (.a d)->d.length=i->pj H b->h D i d b->(∀v B,pj b B->h D (i+1) (d++[v]) B->R v B)->
   g (tx [a.getD i 0]) (AZ own sel O) b λf L=>te f L R):BV (tL ⟨a.toArray⟩) own sel O g qe te Q H:=
 Ed (λi=>tx [a.getD i 0]) I h (λi b l _=>by simpa[tL]using l) (λb _=>by simp[tL]) (λi j x b l _ y=>by
  obtain⟨rfl,c,e,rfl⟩:=y;have M:a[i]? =ae c:=by simpa using e
  exact⟨rfl,by rw[ag,M];rfl⟩) m k z J
def LD(v:Nat->V)(G:n<=sizeLine)(j:∀D b,H D=none->pj H b->b D=ae (.a ((aH n).map v))->Q (.b D) b)
 (I:∀ (i:Nat) (b:Hp) (R:V->Hp->Prop),i<n->pj H b->(∀d,pj b d->R (v i) d)->g (.a (lo+i)) (AZ own sel O) b λa J=>te a J R):BV (uS lo n) own sel O g qe te Q H:=
 Hg G (λD i x _=>x=(aH i).map v) (λ_ _=>rfl) (λ_ _ _ _ _ _ e _=>e) (λD x b z B _ y e=>j D b z y (by rw[B,e]))
  (λD i x b R z c B _ y e r=>I i b R c y λd L=>r _ d L (by rw[e,cr,b0];rfl))
def KO(v:Nat->V)(G:n<=sizeLine)(j:∀D b,H D=none->pj H b->b D=ae (.a ((aH n).map v))->Q (.b D) b)
 (I:∀ (i:Nat) (b:Hp) (R:V->Hp->Prop),i<n->pj H b->(∀d,pj b d->R (v i) d)->g (.a (lo+i*c)) (AZ own sel O) b λa J=>te a J R):BV (DO lo c n) own sel O g qe te Q H:=
 Tn G (λD i x _=>x=(aH i).map v) (λ_ _=>rfl) (λ_ _ _ _ _ _ e _=>e) (λD x b z B _ y e=>j D b z y (by rw[B,e]))
  (λD i x b R z f B _ y e r=>I i b R f y λd L=>r _ d L (by rw[e,cr,b0];rfl))
def LB(v:Nat->V)(I:a.length<=sizeLine)(j:∀D b,H D=none->pj H b->b D=ae (.a (a.map v))->Q (.b D) b)
 (J:∀ (i c:Nat) (b:Hp) (R:V->Hp->Prop),a[i]? =ae c->pj H b->(∀d,pj b d->R (v c) d)->g (tx [c]) (AZ own sel O) b λf L=>te f L R):BV (tL ⟨a.toArray⟩) own sel O g qe te Q H:=
 Hf I (λD i x _=>x=(a.take i).map v) (λ_ _=>rfl) (λ_ _ _ _ _ _ e _=>e) (λD x b B G _ y e=>j D b B y (by rw[G,e,dZ]))
  (λD i x b R B h G _ y e r=>by
    have z:a[i]? =ae a[i]:=al h;have M:a.getD i 0=a[i]:=by rw[ag,z];rfl
    rw[M];exact J i a[i] b R z y λd P=>r _ d P (by rw[e,cL,z,b0];rfl))
end
end
section
variable{g:Nat->Int}
def sm:Nat->(Nat->Int)->Int
 |0,_=>0
 |n+1,f=>sm n f+f n
theorem BW:∀n,(∀i,i<n->f i=g i)->sm n f=sm n g
 |0,_=>rfl
 |n+1,h=>by unfold sm;rw[BW n λi a=>h i (cq a),h n (cp n)]
theorem F6(f g:Nat->Int):∀n,sm n (λi=>f i+g i)=sm n f+sm n g
 |0=>rfl
 |n+1=>by unfold sm;rw[F6 f g n];show sm n f+sm n g+(f n+g n)=_;lia
theorem Ej(c:Int)(f:Nat->Int):∀n,sm n (λi=>c*f i)=c*sm n f
 |0=>by simp[sm]
 |n+1=>by unfold sm;rw[Ej c f n,Int.mul_add]
def Hl(c:Int)(f:Nat->Int)(n:Nat):sm n (λi=>f i*c)=sm n f*c:=by
 rw[iE,<-Ej];exact BW n λi _=>iE _ _
theorem qJ:∀n,(∀i,i<n->f i=0)->sm n f=0
 |0,_=>rfl
 |n+1,h=>by unfold sm;rw[qJ n λi a=>h i (cq a),h n (cp n)];rfl
theorem LS(f:Nat->Int):∀n,sm (n+1) f=f 0+sm n (λi=>f (i+1))
 |0=>by simp[sm]
 |n+1=>by rw[sm,LS f n,sm];lia
theorem Hn(f:Nat->Nat->Int)(m:Nat):∀n,sm n (λi=>sm m λj=>f i j)=sm m (λj=>sm n λi=>f i j)
 |0=>by rw[sm];exact(qJ m λ_ _=>rfl).symm
 |n+1=>by rw[sm,Hn f m n,<-F6];rfl
theorem NX(f:Nat->Nat->Int):∀L,sm L (λa=>sm (L-a-1) λb=>f a (a+1+b))=sm L (λe=>sm e λa=>f a e)
 |0=>rfl
 |L+1=>by
  rw[sm,sm];have e:sm L (λa=>sm (L+1-a-1) λb=>f a (a+1+b))=sm L (λa=>(sm (L-a-1) λb=>f a (a+1+b))+f a L):=by
   refine BW L λa d=>?_;have:L+1-a-1=(L-a-1)+1:=by lia
   rw[this,sm];congr 2;lia
  rw[e,F6,NX f L,show L+1-L-1=0 by lia,sm];lia
theorem EQ:∀n,(∀i,i<n->0<=f i)->0<=sm n f
 |0,_=>dw _
 |n+1,h=>by unfold sm;have:=EQ n λi a=>h i (cq a);have:=h n (cp n);lia
theorem Fj:∀n,(∀i,i<n->f i<=g i)->sm n f<=sm n g
 |0,_=>dw _
 |n+1,h=>by unfold sm;have:=Fj n λi a=>h i (cq a);have:=h n (cp n);lia
theorem FW(c:Int):∀n,sm n (λ_=>c)=n*c
 |0=>by simp[sm]
 |n+1=>by rw[sm,FW c n];rw[j3,kM];simp
def Wv(k:i<n)(h:∀j,j<n->j≠i->f j=0):sm n f=f i:=by
 induction n with
 |zero=>lia
 |succ n b=>
  unfold sm
  by_cases e:i=n
  .subst e;rw[qJ i λj d=>h j oZ oZ];lia
  .rw[b oZ λj d=>h j oZ,h n oZ oZ];lia
theorem Hm(f:Nat->Int):∀n,(∀i,i<n->i%2=1->f i=0)->sm n f=sm ((n+1)/2) λq=>f (2*q)
 |0,_=>rfl
 |n+1,h=>by
  rw[sm,Hm f n λi a=>h i (cq a)]
  by_cases e:n%2=1
  .rw[h n (cp n) e,show(n+1+1)/2=(n+1)/2 by lia];lia
  .rw[show(n+1+1)/2=(n+1)/2+1 by lia,sm,show 2*((n+1)/2)=n by lia]
theorem FR(f:Nat->Int):∀n,((aH n).map f).sum=sm n f
 |0=>rfl
 |n+1=>by rw[cr,b0,List.sum_append,FR f n];simp[sm]
def cv(P:Nat->Nat->Int)(k:Nat):Nat->Nat->gk->Int
 |0,_,[]=>1
 |0,_,_::_=>0
 |n+1,i,st=>sm k (λp=>P i (2*p)*cv P k n (i+1) (p::st))+(match st with|[]=>0|o::r=>P i (2*o+1)*cv P k n (i+1) r)
variable{P:Nat->Nat->Int}{k:Nat}
def Et(n i:Nat):cv P k (n+1) i []=sm k (λp=>P i (2*p)*cv P k n (i+1) [p]):=by
 rw[cv];simp
def Fw(n i o:Nat)(st:gk):cv P k (n+1) i (o::st)=sm k (λp=>P i (2*p)*cv P k n (i+1) (p::o::st))+P i (2*o+1)*cv P k n (i+1) st:=by
 rw[cv]
def L6:∀ (N n i o:Nat) (st:gk),n<=N->cv P k n i (o::st)=sm n (λe=>cv P k e i []*P (i+e) (2*o+1)*cv P k (n-e-1) (i+e+1) st):=by
 intro N
 induction N with
 |zero=>intro n i o st h;obtain rfl:n=0:=by lia
        rfl
 |succ N d=>
  intro n i o st h
  cases n with
  |zero=>rfl
  |succ n=>
   rw[Fw,LS,show cv P k 0 i []=1 from rfl];have j:(1:Int)*P (i+0) (2*o+1)*cv P k (n+1-0-1) (i+0+1) st=P i (2*o+1)*cv P k n (i+1) st:=by rw[gV];rfl
   rw[j,Int.add_comm];congr 1;have L:∀p,cv P k n (i+1) (p::o::st)=sm n (λe=>sm e λa=>(cv P k a (i+1) []*P (i+1+a) (2*p+1))*(cv P k (e-a-1) (i+a+2) []*P (i+e+1) (2*o+1)*cv P k (n-e-1) (i+e+2) st)):=by
    intro p;rw[d n (i+1) p (o::st) oZ,<-NX];refine BW n λa x=>?_;rw[d (n-a-1) (i+1+a+1) o st oZ,<-Ej];refine BW _ λb z=>?_;rw[show a+1+b-a-1=b by lia,show i+1+a+1=i+a+2 by lia,show i+a+2+b=i+(a+1+b)+1 by lia,show n-a-1-b-1=n-(a+1+b)-1 by lia,show i+(a+1+b)+1+1=i+(a+1+b)+2 by lia]
   have y:sm k (λp=>P i (2*p)*cv P k n (i+1) (p::o::st))=sm k (λp=>sm n λe=>P i (2*p)*sm e λa=>(cv P k a (i+1) []*P (i+1+a) (2*p+1))*(cv P k (e-a-1) (i+a+2) []*P (i+e+1) (2*o+1)*cv P k (n-e-1) (i+e+2) st)):=by
    refine BW k λp _=>?_;rw[L p,<-Ej]
   rw[y,Hn];refine BW n λe B=>?_;rw[Et,show i+(e+1)=i+e+1 by lia,show n+1-(e+1)-1=n-e-1 by lia,show i+e+1+1=i+e+2 by lia,gN,<-Hl];refine BW k λp _=>?_;rw[d e (i+1) p [] oZ,gN];congr 1;rw[<-Hl];refine BW e λa x=>?_;rw[show i+1+a+1=i+a+2 by lia];simp only[gN,iE,i4]
theorem D3:∀ (n i:Nat) (b:gk),(n+b.length)%2=1->cv P k n i b=0
 |0,_,[],h=>by simp at h
 |0,_,_::_,_=>rfl
 |n+1,i,[],h=>by
  rw[Et];refine qJ k λp _=>?_;rw[D3 n (i+1) [p] (by simp at h⊢;lia),j4]
 |n+1,i,o::b,h=>by
  rw[Fw,qJ k λp _=>by rw[D3 n (i+1) (p::o::b) (by simp at h⊢;lia),j4],D3 n (i+1) b (by simp at h⊢;lia),j4]
  rfl
def pr(P:Nat->Nat->Int)(k i j:Nat):Int:=sm k λp=>P i (2*p)*P j (2*p+1)
def Yc(m i:Nat):cv P k (m+1) i []=sm m (λe=>pr P k i (i+1+e)*cv P k e (i+1) []*cv P k (m-e-1) (i+e+2) []):=by
 rw[Et];have b:sm k (λp=>P i (2*p)*cv P k m (i+1) [p])=sm k (λp=>sm m λe=>P i (2*p)*P (i+1+e) (2*p+1)*(cv P k e (i+1) []*cv P k (m-e-1) (i+e+2) [])):=by
  refine BW k λp _=>?_;rw[L6 m m (i+1) p [] (am _),<-Ej];refine BW m λe _=>?_;rw[show i+1+e+1=i+e+2 by lia];simp only[gN,iE,i4]
 rw[b,Hn];refine BW m λe _=>?_;rw[Hl,gN]
 rfl
def WX(m i:Nat):cv P k (m+1) i []=sm ((m+1)/2) (λq=>pr P k i (i+1+2*q)*cv P k (2*q) (i+1) []*cv P k (m-2*q-1) (i+2*q+2) []):=by
 rw[Yc,Hm];intro e _ h;rw[D3 e (i+1) [] (by simpa using h),j4,gj]
theorem Fe{c:Int}(y:0<=c)(h:∀i b,0<=P i b)(B:∀i b,P i b<=c):∀ (n i:Nat) (d:gk),0<=cv P k n i d/\cv P k n i d<=(((k:Int)+1)*c)^n
 |0,i,[]=>⟨by simp[cv],by simp[cv]⟩
 |0,i,_::_=>⟨by simp[cv],by simp[cv]⟩
 |n+1,i,d=>by
  have x:=Fe y h B n (i+1);have G:0<=(((k:Int)+1)*c)^n:=b9 (x []).1 (x []).2;have z:∀b j,0<=P i b*cv P k n (i+1) j/\P i b*cv P k n (i+1) j<=c*(((k:Int)+1)*c)^n:=λb j=>
   ⟨bA (h i b) (x j).1,cH (B i b) (x j).2 (x j).1 y⟩
  have H:0<=sm k (λp=>P i (2*p)*cv P k n (i+1) (p::d)):=EQ k λp _=>(z _ _).1;have I:sm k (λp=>P i (2*p)*cv P k n (i+1) (p::d))<=k*(c*(((k:Int)+1)*c)^n):=by
   rw[<-FW];exact Fj k λp _=>(z _ _).2
  have e:(((k:Int)+1)*c)^(n+1)=k*(c*(((k:Int)+1)*c)^n)+c*(((k:Int)+1)*c)^n:=by
   rw[gt,iE,gN,kM,gV]
  have J:0<=c*(((k:Int)+1)*c)^n:=bA y G
  cases d with
  |nil=>rw[Et,e];exact⟨H,by omega⟩
  |cons o r=>
   have:=z (2*o+1) r;rw[Fw,e];constructor<;>omega
theorem MW(n:Nat):∀d,(∀e,n<=e->f e=0)->sm (n+d) f=sm n f
 |0,_=>rfl
 |d+1,h=>by rw[show n+(d+1)=(n+d)+1 by lia,sm,MW n d h,h (n+d) oZ];lia
end
section
variable{x:Int}{w:hO}{P:Nat->Nat->Int}{Q:VK}{E:XK}
abbrev iL(l:hO):HO:= .a (l.map V.a)
def qV(H:Hp)(r:ay)(ps:List hO):Prop:=∃b:Nat->ay,H r=ae (.a ((aH ps.length).map λi=>V.b (b i)))/\∀i,i<ps.length->H (b i)=ae (iL (ps.getD i []))
def qV.J{k:List hO}(h:qV H r k)(s:pj H H'):qV H' r k:=by
 obtain⟨b,d,e⟩:=h;exact⟨b,s _ _ d,λi a=>s _ _ (e i a)⟩
def sF(n:Nat)(f:Nat->Int):gr:=(aH (n+1)).map λj=>V.a (f j)
def Cp(n:Nat)(f:Nat->Int):(sF n f).length=n+1:=by simp[sF]
def Bu(h:j<=n):(sF n f)[j]? =ae (.a (f j)):=by
 unfold sF;rw[ao,bb oZ];rfl
def Vi{v:Int}:(sF n f).set j (.a v)=sF n (λx=>if x=j then v else f x):=by
 apply gU;intro i;unfold sF;rw[i3,ao,ao]
 by_cases e:j=i
 .subst e
  by_cases b:j<n+1
  .rw[bb b];simp[b]
  .rw[aU rfl,aP (by simpa using b)];rw[b8 (by simpa using b)];rfl
 .rw[aP e]
  by_cases a:i<n+1
  .rw[bb a];simp[cV e]
  .rw[b8 (by simpa using a)];rfl
def Gx{g:Nat->Int}(h:∀j,j<=n->f j=g j):sF n f=sF n g:=by
 unfold sF;refine dO λj b=>?_;rw[h j (by have:=bR.mp b;lia)]
structure Tb (H0 H:Hp) (s:ay) (ad:Nat->ay) (n:Nat) (T:Nat->Nat->Int):Prop where
 g:H0 s=none
 f:∀i,i<=n->H0 (ad i)=none
 e:∀i,i<=n->ad i≠s
 d:∀i j,i<=n->j<=n->ad i=ad j->i=j
 a:H s=ae (.a ((aH (n+1)).map λi=>V.b (ad i)))
 b:∀i,i<=n->H (ad i)=ae (.a (sF n (T i)))
 c:pj H0 H
section
variable{H0:Hp}{s:ay}{T T':Nat->Nat->Int}
def Tb.Z(t:Tb H0 H s ad n T)(h:pj H H'):Tb H0 H' s ad n T:=⟨t.g,t.f,t.e,t.d,h _ _ t.a,λi a=>h _ _ (t.b i a),t.c.J h⟩
def Tb.J(t:Tb H0 H s ad n T)(h:∀i j,i<=n->j<=n->T i j=T' i j):Tb H0 H s ad n T':=⟨t.g,t.f,t.e,t.d,t.a,λi a=>by rw[t.b i a,Gx λj b=>h i j a b],t.c⟩
def Tb.at(t:Tb H0 H s ad n T)(h:i<=n):((aH (n+1)).map λi=>V.b (ad i))[i]? =ae (.b (ad i)):=by
 rw[ao,bb oZ];rfl
def Tb.mp(t:Tb H0 H s ad n T){v:Int}(h:i<=n):Tb H0 (upd H (ad i) (.a ((sF n (T i)).set j (.a v)))) s ad n (λa b=>if a=i/\b=j then v else T a b):=by
 refine⟨t.g,t.f,t.e,t.d,by rw[AG (cV (t.e i h))];exact t.a,λa d=>?_,λb o z=>?_⟩
 .by_cases e:a=i
  .subst e;rw[AF,Vi];congr 2;refine Gx λx _=>?_
   by_cases q:x=j<;>simp[q]
  .rw[AG (λz=>e (t.d a i d h z)),t.b a d];congr 2;refine Gx λx _=>?_;simp[e]
 .rw[AG (AQ z (t.f i h))];exact t.c b o z
end
def pN:gk:=[40,41,91,93,123,125,60,62]
def pO(w:hO)(c:Nat):hO:=if c=63 then w else(pN.take w.length).map λb=>if c=b then 1 else 0
def Vs(h:w.length<=8):(pO w c).length=w.length:=by
 unfold pO
 split
 .rfl
 .rw[az,cU];exact io h
abbrev PP(h:List hO):Nat->Nat->Int:=λi b=>(h.getD i []).getD b 0
abbrev ones(k:Nat):hO:=aZ (2*k) 1
def qc(k:Nat)(a:gk):Int:=cv (PP (a.map (pO (ones k)))) k a.length 0 []
inductive rT(K:aB):Type
 |mk (a:gk) (p:ay) (w:hO) (_:vs=[tx a, .b p]) (_:a.length<=40) (_:pq K H p (w.map V.a)) (_:w.length<=8) (_:∀r H',H r=none->pj H H'->qV H' r (a.map (pO w))->Q (.b r) H')
def Qf(d:a.length<=40)(e:pq K H p (w.map V.a))(i:w.length<=8)(q:∀r b,H r=none->pj H b->qV b r (a.map (pO w))->Q (.b r) b):rT K ([tx a, .b p]++[]) H Q E:=⟨a,p,w,rfl,d,e,i,q⟩
inductive sj:Type
 |mk (k:Int) (a:gk) (_:vs=[.a k,tx a]) (_:1<=k) (_:k<=4) (_:a.length<=40) (_:∀r H',H r=none->pj H H'->qV H' r (a.map (pO (ones k.toNat)))->Q (.b r) H')
def EM{k:Int}(d:1<=k)(e:k<=4)(i:a.length<=40)(q:∀r b,H r=none->pj H b->qV b r (a.map (pO (ones k.toNat)))->Q (.b r) b):sj ([.a k,tx a]++[]) H Q E:=⟨k,a,rfl,d,e,i,q⟩
def pD:Int:=10^31
def Sm(l:hO):Prop:=∀v∈l,0<=v/\v<=pD
def Sm.J{l:hO}(h:Sm l)(b:Nat):0<=l.getD b 0/\l.getD b 0<=pD:=by
 rw[ag]
 cases e:l[b]? with
 |none=>exact⟨by simp,by simp[pD]⟩
 |some v=>exact h v (cE e)
inductive va:Type
 |mk (p q:ay) (x y:hO) (k:Nat) (_:vs=[.b p, .b q]) (_:H p=ae (iL x)) (_:H q=ae (iL y)) (_:x.length=2*k) (_:y.length=2*k) (_:k<=4) (_:Sm x) (_:Sm y) (_:∀H',pj H H'->Q (.a (sm k λo=>x.getD (2*o) 0*y.getD (2*o+1) 0)) H')
def Lg{q:ay}{x y:hO}{k:Nat}(d:H p=ae (iL x))(e:H q=ae (iL y))(i:x.length=2*k)(j:y.length=2*k)(h:k<=4)(z:Sm x)(B:Sm y)(r:∀b,pj H b->Q (.a (sm k λo=>x.getD (2*o) 0*y.getD (2*o+1) 0)) b):va ([.b p, .b q]++[]) H Q E:=⟨p,q,x,y,k,rfl,d,e,i,j,h,z,B,r⟩
inductive sX:Type
 |mk (n:Nat) (_:vs=[.a n]) (_:n<=40) (_:∀s ad H',Tb H H' s ad n (λ_ _=>0)->Q (.b s) H')
def J9(d:n<=40)(r:∀s e b,Tb H b s e n (λ_ _=>0)->Q (.b s) b):sX ([.a n]++[]) H Q E:=⟨n,rfl,d,r⟩
def qa(P:Nat->Nat->Int)(k:Nat)(i j:Nat):Int:=if i<=j then cv P k (j-i) i []else 0
def MR:Sp:=λvs H Q _=>∃ (p:ay) (ps:List hO) (k:Nat),vs=[.b p]/\qV H p ps/\ps.length<=40/\k<=4/\(∀l∈ps,l.length=2*k/\Sm l)/\∀s d b,Tb H b s d ps.length (qa (PP ps) k)->Q (.b s) b
def EO{ps:List hO}{k:Nat}(d:qV H p ps)(e:ps.length<=40)(i:k<=4)(j:∀l∈ps,l.length=2*k/\Sm l)(r:∀s x b,Tb H b s x ps.length (qa (PP ps) k)->Q (.b s) b):MR ([.b p]++[]) H Q E:=⟨p,ps,k,rfl,d,e,i,j,r⟩
inductive rB:Type
 |mk (H0 s ad n T:_) (_:vs=[.b s]) (_:Tb H0 H s ad n T) (_:Q (.a (T 0 n)) H)
def EK{H0:Hp}{s:ay}{T:Nat->Nat->Int}(h:Tb H0 H s ad n T)(q:Q (.a (T 0 n)) H):rB ([.b s]++[]) H Q E:=⟨H0,s,ad,n,T,rfl,h,q⟩
def NW:Sp:=λvs H Q _=>∃ (k:Int) (a:gk),vs=[.a k,tx a]/\1<=k/\k<=4/\AR k a=aw/\∀b,pj H b->Q (.a (qc k.toNat a)) b
def HU{k:Int}(d:1<=k)(e:k<=4)(i:AR k a=aw)(q:∀b,pj H b->Q (.a (qc k.toNat a)) b):NW ([.a k,tx a]++[]) H Q E:=⟨k,a,rfl,d,e,i,q⟩
def V9(k:Nat):Sm (ones k):=λv b=>by
 obtain rfl:=e8 b;exact⟨by decide,by decide⟩
def Xv(h:Sm w)(c:Nat):Sm (pO w c):=by
 unfold pO
 split
 .exact h
 .intro v d;obtain⟨b,_,rfl⟩:=bJ.mp d
  split<;>exact⟨by decide,by decide⟩
def CY{k:List hO}(h:∀l∈k,Sm l)(i b:Nat):0<=PP k i b/\PP k i b<=pD:=by
 show 0<=(k.getD i []).getD b 0/\(k.getD i []).getD b 0<=pD
 cases e:k[i]? with
 |none=>
  have q:k.getD i []=[]:=by rw[ag,e];rfl
  rw[q];exact⟨by simp,by simp[pD]⟩
 |some l=>
  have q:k.getD i []=l:=by rw[ag,e];rfl
  rw[q];exact(h l (cE e)).J b
theorem EY{y:Int}(k:0<=x)(h:x<=y):∀n:Nat,0<=x^n/\x^n<=y^n
 |0=>by simp
 |n+1=>by
  obtain⟨a,b⟩:=EY k h n;rw[gt,gt];exact⟨bA a k,cH b h k (b9 a b)⟩
def Ep(b:1<=x){m:Nat}(h:m<=n):x^m<=x^n:=by
 induction n with
 |zero=>obtain rfl:m=0:=by lia
        exact dw _
 |succ n d=>
  by_cases e:m=n+1
  .subst e;exact dw _
  .have j:=d oZ;have i:=(EY (x:=x) (y:=x) oZ (dw _) n).1;rw[gt];have:=cH (dw (x^n)) b oY i;lia
def vt:Int:=(5*pD)^40
def GC{m:List hO}{k:Nat}(q:k<=4)(h:∀l∈m,Sm l)(d:n<=40)(i:Nat)(st:gk):0<=cv (PP m) k n i st/\cv (PP m) k n i st<=vt:=by
 obtain⟨a,b⟩:=Fe (P:=PP m) (k:=k) (c:=pD) oY (λi b=>(CY h i b).1) (λi b=>(CY h i b).2) n i st;refine⟨a,b9 b ?_⟩;have e:(0:Int)<=((k:Int)+1)*pD:=bA oZ oY;have j:((k:Int)+1)*pD<=5*pD:=bQ oZ oY;refine b9 (EY e j n).2 (Ep oY d)
def Xu{m:List hO}{k:Nat}(q:k<=4)(h:∀l∈m,Sm l)(i j:Nat):0<=pr (PP m) k i j/\pr (PP m) k i j<=4*(pD*pD):=by
 unfold pr;have b:∀p,0<=PP m i (2*p)*PP m j (2*p+1)/\PP m i (2*p)*PP m j (2*p+1)<=pD*pD:=λp=>
  ⟨bA (CY h _ _).1 (CY h _ _).1,cH (CY h _ _).2 (CY h _ _).2 (CY h _ _).1 oY⟩
 refine⟨EQ k λp _=>(b p).1,b9 (Fj (g:=λ_=>pD*pD) k λp _=>(b p).2) ?_⟩;rw[FW];exact bQ oZ oY
def BH{i c:Int}(k:0<=i)(h:i<=c)(b:c.natAbs<big):i.natAbs<big:=by
 refine dE ?_ b;lia
def Fx:vt.natAbs<big:=by unfold vt big pD;decide +kernel
def U2:(4*(pD*pD)*vt).natAbs<big:=by unfold vt big pD;decide +kernel
def DT:pD.natAbs<big:=by unfold big pD;decide +kernel
def Nc:(4*(pD*pD)).natAbs<big:=by unfold big pD;decide +kernel
def UH(n:Nat):(aZ (n+1) [V.a 0]).flatten=sF n λ_=>0:=by
 unfold sF;have:∀m,(aZ m [V.a 0]).flatten=(aH m).map λ_=>V.a 0:=by
  intro m
  induction m with
  |zero=>rfl
  |succ m b=>rw[ki,kH,b,cr,b0];rfl
 exact this (n+1)
def Du{xs:List α}{v:α}(h:0<xs.length)(e:xs[xs.length-1]? =ae v):pY xs (-1)=ae v:=by
 unfold pY qW;rw[aP oZ,aU oZ];have:((-1:Int)+xs.length).toNat=xs.length-1:=by lia
 simp only[this,Option.bind];exact e
def UI(m:Nat):(aZ (2*m) [V.a 1]).flatten=(ones m).map V.a:=by
 unfold ones;generalize 2*m=j
 induction j with
 |zero=>rfl
 |succ j b=>rw[ci,cu,b,ci];rfl
def int_at{l:hO}(h:j<l.length):(l.map V.a)[j]? =ae (.a (l.getD j 0)):=by
 rw[ao,ag,al h];rfl
def part(P:Nat->Nat->Int)(k i q j:Nat):Int:=
 if j<=i then(if j=i then 1 else 0)else if(j-i)%2=1 then 0 else
  sm q λe=>if i+2+2*e<=j then pr P k i (i+1+2*e)*cv P k (2*e) (i+1) []*cv P k (j-(i+2+2*e)) (i+2+2*e) []else 0
section
variable{k q:Nat}
def SQ:part P k i 0 j=if j=i then 1 else 0:=by
 unfold part
 by_cases h:j<=i
 .rw[aU h]
 .rw[aP h,aP (show¬ (j=i) by lia)]
  split<;>rfl
def Lf(h:i<j/\(j-i)%2=1):part P k i q j=0:=by
 unfold part;rw[aP oZ,aU h.2]
def SR(h:j<i+2+2*q):part P k i (q+1) j=part P k i q j:=by
 unfold part
 by_cases b:j<=i
 .rw[aU b,aU b]
 .rw[aP b,aP b,sm,aP (show¬ (i+2+2*q<=j) by lia),oa]
def SS{l:Nat}(b:l=i+1+2*q)(h:l+1<=j)(d:(j-i)%2=0):part P k i q j+pr P k i l*cv P k (2*q) (i+1) []*cv P k (j-(l+1)) (l+1) []=part P k i (q+1) j:=by
 subst b;unfold part;rw[aP oZ,aP oZ,aP oZ,aP oZ,sm,aU (show i+2+2*q<=j by lia),show i+1+2*q+1=i+2+2*q by lia]
def Ud(B:j<=n):part P k i ((n-i)/2) j=qa P k i j:=by
 unfold part qa
 by_cases x:j<=i
 .rw[aU x]
  by_cases b:j=i
  .subst b;rw[aU rfl,aU (am _),ff];rfl
  .rw[aP b,aP oZ]
 .rw[aP x,aU (show i<=j by lia)]
  by_cases b:(j-i)%2=1
  .rw[aU b,D3 _ _ _ (by simpa using b)]
  .rw[aP b];obtain⟨m,y⟩:∃m,j-i=m+1:=⟨j-i-1,by lia⟩;rw[y,WX];obtain⟨d,a⟩:∃d,(n-i)/2=(m+1)/2+d:=⟨(n-i)/2-(m+1)/2,by lia⟩;rw[a,MW _ d λe z=>by rw[aP oZ]];refine BW _ λe z=>?_;rw[aU oZ,show j-(i+2+2*e)=m-2*e-1 by lia,show i+2+2*e=i+2*e+2 by lia]
end
def CH{k:Nat}(h:k<=4):∀l∈a.map (pO (ones k)),l.length=2*k/\Sm l:=λl b=>by
 obtain⟨c,_,rfl⟩:=bJ.mp b;exact⟨by rw[Vs (by rw[dD];lia),dD],Xv (V9 k) c⟩
def Xm(n c:Nat):(aZ n [c]).flatten=aZ n c:=by
 induction n with
 |zero=>rfl
 |succ n b=>rw[ci,cu,b];rfl
def Ss{k:Int}(h:n<=40):AR k (aZ n 63)=aw:=by
 unfold AR;rw[aW];refine⟨be (by rw[dD];exact h),List.all_eq_true.mpr λc b=>?_⟩;rw[e8 b];refine be ?_;unfold sgn;exact aX _ (aS.mpr rfl)
def S8(b:hO):(b.map V.a).all BB=aw:=by
 rw[a'];intro v e;obtain⟨d,_,rfl⟩:=bJ.mp e
 rfl
def Vr(w:hO):pO w 63=w:=by unfold pO;rw[aU rfl]
def Ka{w:gk}(h:w≠[]):∃i d,w=i++[d]:=⟨w.dropLast,w.getLast h,(List.dropLast_concat_getLast h).symm⟩
def MD(i:gk)(d:Nat):pY (i++[d]) (-1)=ae d:=Du b' b'
def L9(i:gk)(d:Nat):Aq (i++[d]) none (ae (-1))=i:=by
 unfold Aq;have b:qj (i++[d]).length (i++[d]).length (ae (-1))=i.length:=by
  unfold qj;simp;lia
 rw[rE,b];simp
end
def zG(a:gk):Prop:=∀c∈a,c<16^8
theorem Ke{k:Type}{F:α->k->Prop}:∀ {l:List α} {m:List k},l.length=m.length->(∀ (i:Nat) x u,l[i]? =ae x->m[i]? =ae u->F x u)->ku F l m
 |[],[],_,_=> .nil
 |[],_::_,h,_=>by simp at h
 |_::_,[],h,_=>by simp at h
 |a::l,b::m,h,d=> .cons (d 0 a b rfl rfl) (Ke (by simpa using h) λi x u e j=>d (i+1) x u (by simpa using e) (by simpa using j))
def vk:gr->Hp->VK->Prop:=λb H Q=>∃a,b=[tx a]/\a.length<=1000/\∀l,H l=none->Q (.b l) (upd H l (.a ((a.map λc=>[c]).map tx)))
def KL(K:aB)(G:X.calm=aw):pH X (.type "list") vk:=by
 intro l s k H U Y Q I r h;obtain⟨a,rfl,Z,q⟩:=h;obtain⟨u,rfl,J⟩:=vals1 r;obtain⟨t,rfl⟩:=J;refine PySem.call_list_str (I.e.k G) _ t (λm L b M hk e g=>?_) (by rw[bV];show a.toArray.size<=_;rw[aA];lia);obtain⟨j,y⟩:=g;have d:b.size=a.length:=by rw[j];simp
 have P:Vals ((a.map λc=>[c]).map tx) b.toList:=by
  refine Ke ?_ λi x u B R=>?_
  .simp[d]
  .have z:b[i]? =ae u:=by simpa using R
   obtain⟨c,f,S,rfl⟩:=y i u z;have T:a[i]? =ae c:=by simpa using S
   rw[dC,ao,T]at B
   cases B
   exact⟨f,rfl⟩
 refine⟨.b s.1.1.size,_,I.mp (t':=L) (o:= .a ((a.map λc=>[c]).map tx)) hk (am _) ⟨?_,b.toList,M,P,by simpa using e⟩,rfl,q _ (I.a.J (am _))⟩;rw[az,az,bV];lia
def Wk{es p x l env}:gZ (.List es p) x l env=pure false:=rfl
def Wr{c z pos es env}:aI (.Constant c z pos::es) env=(au,eval (.Constant c z pos) env)::aI es env:=rfl
def Wp{c pos es env}:aI (.List c pos::es) env=(au,eval (.List c pos) env)::aI es env:=rfl
def Wm{c z pos es env}:aI (.Tuple c z pos::es) env=(au,eval (.Tuple c z pos) env)::aI es env:=rfl
def Wq{c z pos es env}:aI (.Dict c z pos::es) env=(au,eval (.Dict c z pos) env)::aI es env:=rfl
def Wt{c o d pos es env}:aI (.BinOp c o d pos::es) env=(au,eval (.BinOp c o d pos) env)::aI es env:=rfl
def Wl{o c pos es env}:aI (.UnaryOp o c pos::es) env=(au,eval (.UnaryOp o c pos) env)::aI es env:=rfl
def Ws{f a k pos es env}:aI (.Call f a k pos::es) env=(au,eval (.Call f a k pos) env)::aI es env:=rfl
def Wo{x pos es env}:aI (.Name x pos::es) env=(au,eval (.Name x pos) env)::aI es env:=rfl
def Wn{a b pos es env}:aI (.Subscript a b pos::es) env=(au,eval (.Subscript a b pos) env)::aI es env:=rfl
inductive Pl (X:Cx):List dH->List TE->Prop
 |a:Pl X [] []
 |h {c z p t es ts:_} (h:PE X (.Constant c z p) t) (r:Pl X es ts):Pl X (.Constant c z p::es) (t::ts)
 |i {c p t es ts:_} (h:PE X (.List c p) t) (r:Pl X es ts):Pl X (.List c p::es) (t::ts)
 |e {c z p t es ts:_} (h:PE X (.Tuple c z p) t) (r:Pl X es ts):Pl X (.Tuple c z p::es) (t::ts)
 |b {c z p t es ts:_} (h:PE X (.Dict c z p) t) (r:Pl X es ts):Pl X (.Dict c z p::es) (t::ts)
 |d {c o d p t es ts:_} (h:PE X (.BinOp c o d p) t) (r:Pl X es ts):Pl X (.BinOp c o d p::es) (t::ts)
 |g {o c p t es ts:_} (h:PE X (.UnaryOp o c p) t) (r:Pl X es ts):Pl X (.UnaryOp o c p::es) (t::ts)
 |c {f a k p t es ts:_} (h:PE X (.Call f a k p) t) (r:Pl X es ts):Pl X (.Call f a k p::es) (t::ts)
 |f {x p t es ts:_} (h:PE X (.Name x p) t) (r:Pl X es ts):Pl X (.Name x p::es) (t::ts)
 |j {a b p t es ts:_} (h:PE X (.Subscript a b p) t) (r:Pl X es ts):Pl X (.Subscript a b p::es) (t::ts)
def FC:List TE->TA
 |[]=>rj
 |t::a=>CB t (FC a)
def Pl.J{k:List TE}(h:Pl X es k):PA X es (FC k):=by
 induction h with
 |a=>exact AB
 |h h _ b=>exact AA h b Wr
 |i h _ b=>exact AA h b Wp
 |e h _ b=>exact AA h b Wm
 |b h _ b=>exact AA h b Wq
 |d h _ b=>exact AA h b Wt
 |g h _ b=>exact AA h b Wl
 |c h _ b=>exact AA h b Ws
 |f h _ b=>exact AA h b Wo
 |j h _ b=>exact AA h b Wn
def Vp{h:List TE}{pos p:Pos}(b:st= .Assign [.Name x pos'] (.List es p) pos)(e:X.N.Nodup)(k:X.N[i]? =ae x)(j:Loc X.a.scope x)(y:X.i x=aw\/X.a.scope.names.lookup x=ae .local)(d:Pl X es h):PS X st (CN (GS (FC h)) (BK i)):=by
 subst b;exact Cu e k j (Ad d.J) Wk y
inductive vx (X:Cx) (st:kh) (t:TS):Prop
 |a (h:PS X st t):vx X st t
def vx.J{t:TS}(h:vx X st t):PS X st t:=h.casesOn λh=>h
inductive xn (X:Cx) (e:dH) (t:TE):Prop
 |mk (h:PE X e t):xn X e t
def xn.J{t:TE}(h:xn X e t):PE X e t:=h.casesOn λh=>h
def Mf{h:List TE}{pos p:Pos}(b:st= .Assign [.Name x pos'] (.List es p) pos)(e:X.N.Nodup)(k:X.N[i]? =ae x)(j:Loc X.a.scope x)(y:X.i x=aw\/X.a.scope.names.lookup x=ae .local)(d:Pl X es h):vx X st (CN (GS (FC h)) (BK i)):=⟨Vp b e k j y d⟩
def MY{Q:VK}(b:a.length<=1000)(q:∀l,H l=none->Q (.b l) (upd H l (.a ((a.map λc=>[c]).map tx)))):vk [tx a] H Q:=⟨a,rfl,b,q⟩
def Ga(a:gk):Prop:=zG a/\a.length<=1000
inductive Th (p:ay) (H:Hp):V->Prop
 |txt (a:gk) (h:Ga a):Th p H (tx a)
 |non:Th p H .d
 |int (i:Int) (h:i=0\/i=7):Th p H (.a i)
 |bl (b:Bool):Th p H (.c b)
 |lst {q:ay} {l:List gk} (h:H q=ae (.a (l.map tx))) (n:q≠p) (f:∀a∈l,Ga a) (z:l.length<=1100):Th p H (.b q)
 |tup {q:ay} {l:List gk} (h:H q=ae (.b (l.map tx))) (n:q≠p) (f:∀a∈l,Ga a) (z:l.length<=1):Th p H (.b q)
 |dc0 {q:ay} (h:H q=ae (.d [])) (n:q≠p):Th p H (.b q)
 |dc1 {q:ay} {a:gk} (h:H q=ae (.d [(.inr ⟨a.toArray⟩, .a 1)])) (n:q≠p) (f:Ga a):Th p H (.b q)
def all_cons{x:V}{l:gr}(b:Th p H x)(d:∀v∈l,Th p H v):∀v∈x::l,Th p H v:=λv i=>(aL.mp i).elim (λe=>e▸b) (d v)
section
variable{b:List kh}{apos:Pos}{f:Str}{t:TA}{tv:TE}{rd:V->V->Hp->VK->Prop}{Q:VK}{E:XK}{R:XR}
structure yN (P:bW) (w:dh) (K:aB) (mg:Str->Option ai) (base:dg) (k:Nat) (C:ay) (m:Str) (ps:hE) (sp:Sp):Prop where
 a:∃f fd,pV P w K mg base tI k f fd ps sp/\Meth K C m f/\Binds K fd ps []
structure yM (P:bW) (w:dh) (K:aB) (mg:Str->Option ai) (base:dg) (k:Nat) (C:ay) (ps:hE) (sp:Sp):Prop where
 a:∃j f fd,j+1<=k/\pV P w K mg base tI j f fd ps sp/\Mk K C f/\Binds K fd ps []
section
variable{k:Nat}{m:Str}{ps:hE}{o value:dH}{p pos:Pos}
def DZ(c:sM X.K C)(U:yN X.d X.w X.K X.h X.f k C m ps sp)(i:pM k X.A)(j:PE X o ta)(y:PA X (e::es) t)
 (b:qr X e es<|>n') (d:(dN pos (aI es X.a)).any (·.1)=au<|>n')
 (h:eval (.Call (.Attribute o m apos) (e::es) [] pos) X.a=(do
   let a<-eval o X.a
   hU apos.atName
   let(f,first)<-gQ [a] (iT a m pl)
   mB pos f first (dN pos (aI (e::es) X.a)) (iA pos (fD [] X.a)))<|>n'):
 PE X (.Call (.Attribute o m apos) (e::es) [] pos) (Ey C m sp [] E0 ta t):=by
 obtain⟨_,_,F,z,B⟩:=U.a;exact Vx j c z F i B .nil E6 y b d h
def Mm(c:sM X.K C)(U:yN X.d X.w X.K X.h X.f k C m ps sp)(b:pM k X.A)(d:PE X o ta)
 (h:eval (.Call (.Attribute o m apos) [] [] pos) X.a=(do
   let a<-eval o X.a
   hU apos.atName
   let(f,first)<-gQ [a] (iT a m pl)
   mB pos f first (dN pos (aI [] X.a)) (iA pos (fD [] X.a)))<|>n'):
 PE X (.Call (.Attribute o m apos) [] [] pos) (Ey C m sp [] E0 ta rj):=by
 obtain⟨_,_,F,i,j⟩:=U.a;exact UV d c i F b j .nil E6 h
def Ni(U:yM X.d X.w X.K X.h X.f k C ps sp)(i:pM k X.A)(j:X.h x=ae (.ref C))(y:PA X (e::es) t)(h:Gl X x<|>n')(b:qq x<|>pu)
 (z:qr X e es<|>n') (d:(dN pos (aI es X.a)).any (·.1)=au<|>n'):PE X (.Call (.Name x p) (e::es) [] pos) (Ez C sp [] E0 t):=by
 obtain⟨_,_,_,a,F,M,B⟩:=U.a;exact Vy M F (i.ld a) h j B .nil E6 y b z d
def AY(K:aB)(b:PE X e ta)(d:X.K=K<|>n')(i:eh e f X.a (eval e X.a)=eval e X.a<|>n'):PE X (.Attribute e f pos) (JE K ta f):=by subst d;exact X0 b i
def Cq(K:aB)(b:PE X o ta)(d:PE X value tv)(i:X.K=K<|>n')(j:gZ value (ae (.Attribute o f pos')) pos.line X.a=pure false<|>n'):PS X (.Assign [.Attribute o f pos'] value pos) (JI K ta tv f):=by subst i;exact Xq b d j
def RU(K:aB){op:kb}(b:GZ X op rd)(d:PE X o ta)(i:PE X value tv)(j:X.K=K<|>n'):PS X (.AugAssign (.Attribute o f tpos) op value pos) (Hs K ta tv rd f):=by subst j;exact SK d i b
def xE:V->V->Hp->VK->Prop:=λx y H Q=>xF x y H Q\/∃a b,x=tx a/\y=tx b/\a.length+b.length<=sizeLine/\Q (tx (a++b)) H
def M4:GZ X .Add xE:=by
 rintro e s c H x y u v Q I d i (h|⟨a,b,rfl,rfl,j,q⟩)
 .exact YQ e s c H x y u v Q I d i h
 .obtain⟨t,rfl⟩:=d;obtain⟨B,rfl⟩:=i;refine PyProof.Rows.iadd_str (λz G=>⟨tx (a++b),H,I.Z _,⟨z,?_⟩,q⟩) (by rw[BG,BG];exact j);congr 1;show(⟨a.toArray++b.toArray⟩:Str)=_;simp
end
section
variable{O:pz}{m:Str}
def XC(h:ta O H λx b=>∃a d c,x= .b a/\b a=ae (.c C d c)/\c.lookup m=none/\t O b λvs e=>sp (x::(vs++[])) e Q E):Ey C m sp [] E ta t O H Q:=h
def XD(h:t O H λvs d=>∀x b,d x=none->d b=none->b≠x->sp (.b x::(vs++[])) (upd (upd d b (.f x)) x (.c C b [])) (λv e=>v= .d/\Q (.b x) e) E):Ez C sp [] E t O H Q:=h
def XW(h:ta O H λx b=>∃a C d c v,x= .b a/\b a=ae (.c C d c)/\sM K C/\qb K C f/\c.lookup f=ae v/\Q v b):JE K ta f O H Q:=h
def XX(h:tv O H λy e=>ta O e λx b=>∃a C d fs,x= .b a/\b a=ae (.c C d fs)/\sM K C/\qb K C f/\fs.length<1000/\D.nx O (upd b a (.c C d (Aw f y fs)))):JI K ta tv f D O H:=h
def XY(h:ta O H λx e=>∃a C j c v,x= .b a/\e a=ae (.c C j c)/\sM K C/\qb K C f/\c.lookup f=ae v/\tv O e λy B=>rd v y B λz i=>∃d b,i a=ae (.c C d b)/\b.length<1000/\D.nx O (upd i a (.c C d (Aw f z b)))):Hs K ta tv rd f D O H:=h
end
structure Cs where
 l:ay
 d:ay
 e:ay
 b:ay
 k:ay
 c:ay
 f:ay
 i:ay
 a:ay
 j:ay
 g:ay
 h:ay
def GP(K:aB)(C:ay):Bool:=W.excIn K C F4 "ValueError.__new__"&&(W.typeIn K (.ref C)==ae (.type "type"))&&(W.clsIn K C).isSome&&(W.mroIn K C (.type "BaseException")==ae aw)&&
 (W.mroIn K C (.type "object")==ae aw)&&(W.findIn K (.ref C) "__getattribute__"==ae (ae (.builtin "BaseException.__getattribute__")))&&(W.findIn K (.ref C) "__getattr__"==ae none)&&
 (W.findIn K (.ref C) "__class__"==ae (ae (.builtin "object.__class__")))&&(W.specialIn K (.builtin "object.__class__") "__get__"==ae (ae (.builtin "getset_descriptor.__get__")))&&(W.takesIn K (.builtin "object.__class__")==ae aw)
def WV(h:GP K C=aw):qm K C:=by
 unfold GP at h;simp only[aW,bP]at h;obtain⟨⟨⟨⟨⟨⟨⟨⟨⟨d,e⟩,i⟩,j⟩,x⟩,y⟩,z⟩,B⟩,G⟩,b⟩:=h;exact⟨d,e,iZ.mp i,j,x,y,z,B,G,b⟩
def Bp{pos:Pos}(h:X.h x=ae (.ref C))(k:Gl X x<|>n')(l:qq x<|>pu):PE X (.Name x pos) (tC (.b C)):=Ac (v:= .b C) ⟨_,h,rfl⟩ k l
def P7:fE "ValueError"=ae (.type "ValueError"):=by decide +kernel
def zp:XR:=λ_ _ _ _=>False
def BI(e:ai)(k:ak)(h:XF X zp e k):X.xe e k:=by
 obtain⟨_,_,_,_,_,_,_,_,_,_,_,_,_,_,_,_,_,_,r⟩:=h;exact r.elim
def BU{R:TS->Prop}(h:∃t,rm X.ux b t/\R t):∃t,rm X b t/\R t:=let⟨t,p,r⟩:=h;⟨t,p.J,r⟩
theorem PS.J{t:TS}(h:PS X.ux st t):PS X st t:=λc s a H D I b=>
 bi (h c s a H D (I.rp _) b) (λ_ _ q=>q.J) λ_ _ z=>bH z
section
variable{O:pz}
def Vg(h:t O H λvs b=>sp vs b Q (xk R O)):NT sp R t O H Q:=h
def VM(h:t O H λvs b=>vs.length<=sizeLine/\∀y,b y=none->R C y O b):NN C R t D O H:=h
def Yl{m:ay}{l:XR->TS}{k:TS}
 (h:l (λC x a b=>W.mroIn K C (.ref m)=ae aw/\∀c,k (Fs i D) (a.set i (ae (.b x))) (upd b x (BM c x C))) D O H):Oq K i m l k D O H:=h
end
def Ref(E:XK)(C:ay)(H:Hp):Prop:=∀y b,pj H b->H y=none->E (.ref C) (ae y) b
theorem Ref.J{O:pz}(r:Ref E C H)(s:pj H H1):Ref (xk (xY E) O) C H1:=λy b d h=>⟨C,y,rfl,rfl,r y b (s.J d) (s.Z h)⟩
def LX{y:ay}{o:HO}(s:pj H H')(n:H y=none):pj H (upd H' y o):=λb u z=>by rw[AG (AQ z n)];exact s b u z
def Na{O:pz}(h:∀y b,pj H b->H y=none->R C y O b):Ref (xk R O) C H:=λy b s n=>⟨C,y,rfl,rfl,h y b s n⟩
def xN(K:aB)(h k:Int)(H:Hp)(v:V):Prop:=∃a,pQ K H v (.type a)/\a∈CJ/\∀i,v= .a i->i<h\/k<i
abbrev yK(K:aB):Hp->V->Prop:=xN K 1 4
def xO(K:aB)(k:Int)(H:Hp)(v:V):Prop:=(∃a,v=tx a/\a.length<=1000/\AR k a=au)\/∃b,pQ K H v (.type b)/\b∈CJ/\b≠"str"
def pQ.J{v:V}{t:ai}(h:pQ K H v t)(s:pj H H'):pQ K H' v t:=by
 cases h with
 |c=>exact .c
 |e x=>exact .e x
 |a i=>exact .a i
 |b x=>exact .b x
 |d x=>exact .d x
 |lst e=>exact .lst (s _ _ e)
 |frz e=>exact .frz (s _ _ e)
 |tup e=>exact .tup (s _ _ e)
 |dK e=>exact .dK (s _ _ e)
 |dT e=>exact .dT (s _ _ e)
 |ins e a d j b y=>exact .ins (s _ _ e) a d j b y
def pQ.Z{v:V}{t:ai}(h:pQ K H v t)(e:t= .type "int"):∃i,v= .a i:=by
 cases h<;>first|exact⟨_,rfl⟩|(injection e with e;exact absurd e oY)|cases e
theorem xN.J{k:Int}{v:V}(h:xN K lo k H v)(s:pj H H'):xN K lo k H' v:=let⟨c,a,b⟩:=h;⟨c,a.J s,b⟩
theorem xO.J{k:Int}{v:V}(h:xO K k H v)(s:pj H H'):xO K k H' v:=h.elim .inl λ⟨c,a,b⟩=> .inr ⟨c,a.J s,b⟩
def Gate(K:aB)(cs:Cs)(H:Hp)(E:XK)(b v:V):Prop:=(yK K H b/\Ref E cs.d H)\/∃k:Int,b= .a k/\1<=k/\k<=4/\xO K k H v/\Ref E cs.e H
theorem Gate.J{cs:Cs}{h v:V}{O:pz}(g:Gate K cs H E h v)(s:pj H H1):Gate K cs H1 (xk (xY E) O) h v:=
 g.elim (λ⟨a,r⟩=> .inl ⟨a.J s,r.J s⟩) λ⟨k,e,b,d,a,r⟩=> .inr ⟨k,e,b,d,a.J s,r.J s⟩
def T8(K:aB)(cs:Cs):Sp:=λvs H Q E=>uq vs H Q E\/∃v,vs=[v]/\yK K H v/\Ref E cs.d H
def MT(K:aB)(cs:Cs):Sp:=λvs H Q E=>vd K vs H Q E\/∃b v,vs=[b,v]/\yK K H b/\Ref E cs.d H
def Hk(K:aB)(cs:Cs)(sp:Sp):Sp:=λvs H Q E=>sp vs H Q E\/∃b v,vs=[b,v]/\Gate K cs H E b v
def Rj{cs:Cs}{k:Int}{v:V}(e:1<=k)(i:k<=4)(n:xO K k H v)(q:∀d,pj H d->Q (.c au) d):MT K cs [.a k,v] H Q E:=by
 refine .inl ⟨k,v,rfl,e,i,?_⟩;rcases n with⟨a,rfl,h,g⟩|⟨f,a,b,c⟩
 .exact .inl ⟨a,rfl,h,λd s=>by rw[g];exact q d s⟩
 .exact .inr ⟨f,a,b,c,q H (pj.ap H)⟩
structure xR (P:bW) (w:dh) (K:aB) (mg:Str->Option ai) (base:dg) (k:Nat) (C:ay) (m:Str) (ps:hE) (sp:Sp):Prop where
 a:∃f fd,pV P w K mg base (uB P w) k f fd ps sp/\Meth K C m f/\Binds K fd ps []
def NO(C:ay)(m:Str)(sp:Sp)(R:XR)(d:TE)(t:TA):TE:=λc H Q=>d c H λx b=>∃a e f,x= .b a/\b a=ae (.c C e f)/\f.lookup m=none/\t c b λvs i=>sp (x::vs) i Q (xk R c)
section
variable{k:Nat}{f:ay}{ps:hE}{m:Str}{p pos:Pos}{o:dH}
def Vl{O:pz}{s:ak}(F:pV X.d X.w X.K X.h X.f (uB X.d X.w) k f fd ps sp)(i:pM k X.A)(j:Binds X.K fd ps [])(y:∀e d,XF X R e d->X.xe e d)
 (I:Inv X pb O H s) (r:Vals vs us) (h:sp vs H Q (xk R O)):aO (aV X.d X.w) X.A (call (.ref f) us) (EP X pb O Q) X.xe s:=by
 have B:us.length=ps.length:=by rw[<-r.J];exact F.b _ _ _ _ h
 refine gb (dB (F.a X.A X.e s H ⟨us,[]⟩ us vs Q (xk R O) i I.uQ ?_ r h) λa d b=>?_)
 .have z:=j s us I.qB (by rw[cT];exact B);rw[cT]at z;exact z
 .cases a with
  |error G=>exact y _ _ ⟨pb,O,H,s,I,b⟩
  |ok c=>
   cases c with
   |ret u=>exact I.after b
   |next=>exact bH b
   |brk=>exact bH b
   |cont=>exact bH b
def Ml(c:sM X.K C)(U:xR X.d X.w X.K X.h X.f k C m ps sp)(B:pM k X.A)(G:∀e i,XF X R e i->X.xe e i)(J:PE X o ta)(L:PA X (e::es) t)
 (b:qr X e es<|>n') (d:(dN pos (aI es X.a)).any (·.1)=au<|>n')
 (N:eval (.Call (.Attribute o m apos) (e::es) [] pos) X.a=(do
   let p<-eval o X.a
   hU apos.atName
   let(f,first)<-gQ [p] (iT p m pl)
   mB pos f first (dN pos (aI (e::es) X.a)) (iA pos (fD [] X.a)))<|>n'):
 PE X (.Call (.Attribute o m apos) (e::es) [] pos) (NO C m sp R ta t):=by
 obtain⟨f,fd,F,j,M⟩:=U.a;intro n s g H Q I h;refine W.methodCall_KW (pl:=pl) (zz (J n s g H _ I h) λu P x S y T ⟨a,dx,V,E,Y,l,q⟩=>?_) N;subst E;obtain rfl:u=aj a:=T;refine Gm y Y c j l ?_;refine W.callWith_K (first:=[.ref a]) (h₀:=X.f) I.e.f.b j.b (zQ (L pos n P g S _ y q) λD O v H2 z r Z=>⟨z.qB,?_⟩) b d;exact Vl (us:= .ref a::D) (vs:= .b a::v) F B M G z (.cons rfl r) Z
end
section
variable{O:pz}{m:Str}
def VP(h:ta O H λx b=>∃a d c,x= .b a/\b a=ae (.c C d c)/\c.lookup m=none/\t O b λvs e=>sp (x::vs) e Q (xk R O)):NO C m sp R ta t O H Q:=h
end
end
end Lake
namespace PySem
open PySem.Sem (wp)
variable{S:Nat->dg->Prop}{P:Nat->ai->Prop}{Q:Option ai->ak->Prop}
structure tK (z TI TO i1 i2:ay) (fp1 fp2:List ay):Prop where
 f:TI≠z
 a:TO≠z
 c:TI≠TO
 d:TI≠i1
 b:TI≠i2
 g:z∉fp1
 h:z∉fp2
 k:TO∉fp1
 i:TO∉fp2
 e:i1∉fp2
 j:i2∉fp1
 l:i1∈fp1
 m:i2∈fp2
section
variable{s:ak}
variable{z TI TO i1 i2:ay}{fp1 fp2:List ay}{n1 n2:Nat}{P1 P2:Nat->ai->Prop}{S1 S2:Nat->dg->Prop}{a b:ai}
def tK.J(D:tK z TI TO i1 i2 fp1 fp2):i1≠z:=λe=>D.g (e▸D.l)
def tK.Z(D:tK z TI TO i1 i2 fp1 fp2):i2≠z:=λe=>D.h (e▸D.m)
def tK.za(D:tK z TI TO i1 i2 fp1 fp2):i1≠TO:=λe=>D.k (e▸D.l)
def tK.zA(D:tK z TI TO i1 i2 fp1 fp2):i2≠TO:=λe=>D.i (e▸D.m)
def Draws.J{m c:ay}{l:List ay}{h:dg}(D:j5 prog w A m l n P S)(st:S i h)(k:jh c h h')(d:c∉l):S i h':=D.frame _ _ _ st λx j o e=>k x o (λq=>d (q▸j)) e
def P8{Q:ai->ak->Prop}(D:tK z TI TO i1 i2 fp1 fp2)(V:j5 prog w A i1 fp1 n1 P1 S1)(O:j5 prog w A i2 fp2 n2 P2 S2)
 (hz:jD s.heap z TI TO .none) (a6:e9 s.heap TI (.ref i1) (.ref i2)) (a5:e9 s.heap TO a b) (h1:S1 i s.heap) (h2:S2 i s.heap) (l1:i<n1) (l2:i<n2)
 (hQ:∀x y h' tk,P1 i x->P2 i y->jD h' z TI TO (c7 s.1.1.size)->e9 h' TO x y->S1 (i+1) h'->S2 (i+1) h'->e9 h' s.1.1.size x y->h'.objs.size=s.1.1.size+1->
   (∀c o,c≠z->c≠TO->c≠i1->c≠i2->s.heap.get? c=ae o->h'.get? c=ae o)->Q (.ref s.1.1.size) {s with heap:=h',toks:=tk}):
 aO (aV prog w) A (dR.«zip.__next__» ⟨[.ref z],[]⟩) (λa7 s'=>∃v,a7= .done (.ret v)/\Q v s') E s:=by
 obtain⟨hp,g,d,a4,os⟩:=s;show aO _ _ (nU (.ref z) 2>>=_) _ _ _;refine ac (cO hz rfl (x:= .bool au) rfl ?_);show aO _ _ (nU (.ref z) 3>>=_) _ _ _;refine ac (cO hz rfl (x:= .ref TI) rfl ?_);refine ac (dz a6 rfl ?_);show aO _ _ (cX (.ref z)>>=_) _ _ _;refine ac ?_;unfold cX;refine ac (cO hz rfl (x:= .none) rfl (ah ?_));simp only[gG];refine ac (fk ?_);refine ac (cO hz rfl (x:= .ref TO) rfl ?_);refine ac (d3 hz b' λm S j=>?_)
 replace S:jD m z TI TO .ellipsis:=S
 replace j:bC z hp m:=j
 refine ac ?_;simp only[mq,mP,eZ,kx];refine ac (ac (i7 ?_));show aO _ _ (cj (.ref i1)>>=_) _ _ _;refine ac (V.item i _ _ _ l1 (V.J h1 j.extBut D.g) λx l a3 hx K B=>ah ?_)
 replace B:bC i1 m l:=B
 have U:e9 l TO a b:=B.extBut _ _ D.za.symm (j.extBut _ _ D.a a5);refine ac (dz U rfl ?_);refine ac (hZ U λk P G=>?_)
 replace P:e9 k TO x b:=P
 replace G:bC TO l k:=G
 refine ac (mE (ah ?_));refine ac (ac (i7 ?_));show aO _ _ (cj (.ref i2)>>=_) _ _ _;refine ac (O.item i _ _ _ l2 (O.J (O.J (O.J h2 j.extBut D.h) B.extBut D.e) G.extBut D.i) λy h a2 hy u H=>ah ?_)
 replace H:bC i2 k h:=H
 have X:e9 h TO x b:=H.extBut _ _ D.zA.symm P;refine ac (dz X rfl ?_);refine ac (hZ X λh₅ J I=>?_)
 replace J:e9 h₅ TO x y:=J
 replace I:bC TO h h₅:=I
 refine ac (mE (ah (ah ?_)));refine ac (dz J rfl ?_);refine ac (wpAny_newTuple ?_);have a1:h₅.objs.size=hp.objs.size:=by rw[I.1,H.1,G.1,B.1,j.1]
 have Y:jD h₅ z TI TO .ellipsis:=I.extBut _ _ D.a.symm (H.extBut _ _ D.Z.symm (G.extBut _ _ D.a.symm (B.extBut _ _ D.J.symm S)));have r:∀c o,c≠z->c≠TO->c≠i1->c≠i2->hp.get? c=ae o->h₅.get? c=ae o:=λc o N c2 c3 c4 e=>
  I.extBut _ _ c2 (H.extBut _ _ c4 (G.extBut _ _ c2 (B.extBut _ _ c3 (j.extBut _ _ N e))))
 have C:S1 (i+1) h₅:=V.J (V.J (V.J K G.extBut D.k) H.extBut D.j) I.extBut D.k;have t:S2 (i+1) h₅:=O.J u I.extBut D.i;have n:z<h₅.objs.size:=ax Y;show aO _ _ (fY (.ref z) (.ref h₅.objs.size)>>=_) _ _ _;refine ac ?_;unfold fY;have p:jD (h₅.push {cls:= .type "tuple",data:= .seq #[x,y]}) z TI TO .ellipsis:=af _ Y;refine ac (d3 p b' λf T L=>?_)
 replace T:jD f z TI TO (c7 h₅.objs.size):=T
 replace L:bC z (h₅.push {cls:= .type "tuple",data:= .seq #[x,y]}) f:=L
 refine d3 T b' λh₈ R M=>?_
 replace R:jD h₈ z TI TO (c7 h₅.objs.size):=R
 replace M:bC z f h₈:=M
 have up:∀c o,c≠z->h₅.get? c=ae o->h₈.get? c=ae o:=λc o N e=>M.extBut _ _ N (L.extBut _ _ N (af _ e));have Z:e9 h₈ h₅.objs.size x y:=M.extBut _ _ (eF n) (L.extBut _ _ (eF n) (aq _ rfl));have a0:h₈.objs.size=h₅.objs.size+1:=by rw[M.1,L.1,bK]
 rw[a1]at R Z a0;refine ah ⟨_,rfl,?_⟩;show Q (.ref h₅.objs.size) _;rw[a1];exact hQ x y h₈ _ hx hy R (up _ _ D.a J) (V.frame _ _ _ C λc hc o e=>up c o (λq=>D.g (q▸hc)) e) (O.frame _ _ _ t λc hc o e=>up c o (λq=>D.h (q▸hc)) e) Z a0 λc o N c2 c3 c4 e=>up c o N (r c o N c2 c3 c4 e)
def QG{Q:Fin->ak->Prop}(D:tK z TI TO i1 i2 fp1 fp2)(Y:j5 prog w A i1 fp1 n1 P1 S1)(Z:j5 prog w A i2 fp2 n2 P2 S2)
 (T:jD s.heap z TI TO .none) (v:e9 s.heap TI (.ref i1) (.ref i2)) (u:e9 s.heap TO a b) (O:S1 i s.heap) (h2:S2 i s.heap) (U:i=n1\/(i<n1/\i=n2))
 (N:∀h' V e,(∀c o,c≠z->c≠TO->c≠i1->c≠i2->s.heap.get? c=ae o->h'.get? c=ae o)->(∃o,h'.get? e=ae o/\o.cls= .type "StopIteration")->E (.ref e) {s with heap:=h',toks:=V}):
 aO (aV prog w) A (dR.«zip.__next__» ⟨[.ref z],[]⟩) Q E s:=by
 obtain⟨hp,g,d,q,os⟩:=s;show aO _ _ (nU (.ref z) 2>>=_) _ _ _;refine ac (cO T rfl (x:= .bool au) rfl ?_);show aO _ _ (nU (.ref z) 3>>=_) _ _ _;refine ac (cO T rfl (x:= .ref TI) rfl ?_);refine ac (dz v rfl ?_);show aO _ _ (cX (.ref z)>>=_) _ _ _;refine ac ?_;unfold cX;refine ac (cO T rfl (x:= .none) rfl (ah ?_));simp only[gG];refine ac (fk ?_);refine ac (cO T rfl (x:= .ref TO) rfl ?_);refine ac (d3 T b' λk G B=>?_)
 replace G:jD k z TI TO .ellipsis:=G
 replace B:bC z hp k:=B
 refine ac ?_;simp only[mq,mP,eZ,kx];refine ac (ac (i7 ?_));show aO _ _ (cj (.ref i1)>>=_) _ _ _;rcases U with rfl|⟨l1,rfl⟩
 .refine ac (Y.done _ _ _ (Y.J O B.extBut D.g) λf e j t=>?_)
  replace j:jh i1 k f:=j
  obtain⟨r,J,M⟩:=t;have P:jD f z TI TO .ellipsis:=j _ _ D.J.symm G;have S:e≠z:=λx=>by subst x;rw[P]at J;cases J;simp at M
  refine d3 P b' λh _ y=>?_
  replace y:bC z f h:=y
  exact N h _ e (λc o X _ K _ x=>y.extBut _ _ X (j _ _ K (B.extBut _ _ X x))) ⟨r,y.extBut _ _ S J,M⟩
 .refine ac (Y.item i _ _ _ l1 (Y.J O B.extBut D.g) λx f p hx C j=>ah ?_)
  replace j:bC i1 k f:=j
  have L:e9 f TO a b:=j.extBut _ _ D.za.symm (B.extBut _ _ D.a u);refine ac (dz L rfl ?_);refine ac (hZ L λh n y=>?_)
  replace y:bC TO f h:=y
  refine ac (mE (ah ?_));refine ac (ac (i7 ?_));show aO _ _ (cj (.ref i2)>>=_) _ _ _;refine ac (Z.done _ _ _ (Z.J (Z.J (Z.J h2 B.extBut D.h) j.extBut D.e) y.extBut D.i) λl e H t=>?_)
  replace H:jh i2 h l:=H
  obtain⟨r,J,M⟩:=t;have R:jD l z TI TO .ellipsis:=H _ _ D.Z.symm (y.extBut _ _ D.a.symm (j.extBut _ _ D.J.symm G));have S:e≠z:=λx=>by subst x;rw[R]at J;cases J;simp at M
  refine d3 R b' λm _ I=>?_
  replace I:bC z l m:=I
  exact N m _ e (λc o X c2 K c4 x=>I.extBut _ _ X (H _ _ c4 (y.extBut _ _ c2 (j.extBut _ _ K (B.extBut _ _ X x))))) ⟨r,I.extBut _ _ S J,M⟩
set_option tactic.hygienic true in
def Qj(D:tK z TI TO i1 i2 fp1 fp2)(I:j5 prog w A.in1 i1 fp1 n1 P1 S1)(J:j5 prog w A.in1 i2 fp2 n2 P2 S2)
 (G:jD s.heap z TI TO .none) (e:e9 s.heap TI (.ref i1) (.ref i2)) (j:e9 s.heap TO a b) (L:S1 i s.heap) (M:S2 i s.heap) (P:i<n1) (R:i<n2)
 (S:∀x y d B,P1 i x->P2 i y->jD d z TI TO (c7 s.1.1.size)->e9 d TO x y->S1 (i+1) d->S2 (i+1) d->e9 d s.1.1.size x y->d.objs.size=s.1.1.size+1->
   (∀c o,c≠z->c≠TO->c≠i1->c≠i2->s.heap.get? c=ae o->d.get? c=ae o)->Q (ae (.ref s.1.1.size)) {s with heap:=d,toks:=B}):
 aO (aV prog w) A (fA (.ref z)) Q E s:=by
 have H:s.TypeIs (.ref z) "zip":=⟨_,G,rfl⟩;unfold fA;exact ac (d5 (cz (name:=fF "__next__") H F.slot_zip_next
  (cC F.slot_zip_next H F.entry_zip_next
    (P8 D I J G e j L M P R λx y d B T U X Y Z k h g f=>ah (S x y d B T U X Y Z k h g f)) (F.args_zip_next_1 _))))
set_option tactic.hygienic true in
def P3(D:tK z TI TO i1 i2 fp1 fp2)(I:j5 prog w A.in1 i1 fp1 n1 P1 S1)(J:j5 prog w A.in1 i2 fp2 n2 P2 S2)
 (B:jD s.heap z TI TO .none) (j:e9 s.heap TI (.ref i1) (.ref i2)) (x:e9 s.heap TO a b) (L:S1 i s.heap) (M:S2 i s.heap) (d:i=n1\/(i<n1/\i=n2))
 (P:∀y G,(∀c o,c≠z->c≠TO->c≠i1->c≠i2->s.heap.get? c=ae o->y.get? c=ae o)->Q none {s with heap:=y,toks:=G}):aO (aV prog w) A (fA (.ref z)) Q E s:=by
 have H:s.TypeIs (.ref z) "zip":=⟨_,B,rfl⟩;unfold fA;refine ac (d5 (cz (name:=fF "__next__") H F.slot_zip_next
  (cC F.slot_zip_next H F.entry_zip_next (QG D I J B j x L M d λy G e hk R=>?_) (F.args_zip_next_1 _))))
 obtain⟨o,S,U⟩:=R;refine ac (fZ (T:="StopIteration") (b:=aw) ⟨o,S,U⟩ kt ?_);exact ah (P _ _ hk)
end
abbrev zm(x:Str)(t:Tok):Obj:={cls:= .type (f8 x),data:= .fields #[.str x t, .int 0 0]}
end PySem
namespace Lake
section
variable{tn:dg->Prop}
section
variable{k:Nat}
def Ti{O:pz}{s:ak}{z l h N m:ay}{g σ:List ay}{n1 n2:Nat}{P1 P2:Nat->ai->Prop}{P K:Nat->dg->Prop}{a b:ai}{Qx Qy:ai->V->Prop}
 (D:tK z l h N m g σ) (U:j5 X.d X.w X.A.in1 N g n1 P1 P) (Y:j5 X.d X.w X.A.in1 m σ n2 P2 K) (I:Inv X pb O H s) (hf:∀b∈[z,l,h,N,m],BZ X pb H b)
 (hz:jD s.heap z l h .none) (B:e9 s.heap l (.ref N) (.ref m)) (M:e9 s.heap h a b) (h1:P i s.heap) (h2:K i s.heap) (l1:i<n1) (l2:i<n2)
 (Z:∀L x y,jD L z l h .none->e9 L l (.ref N) (.ref m)->e9 L h x y->P (i+1) L->K (i+1) L->tn L) (y1:∀v,P1 i v->∃q,RelV q v/\Qx v q) (y2:∀v,P2 i v->∃q,RelV q v/\Qy v q):
 aO (aV X.d X.w) X.A (fA (.ref z)) (λr s1=>∃u,r=ae u/\aO (aV X.d X.w) X.A (c8 (.Tuple elts k tpos) (.ref z) u) (λ_ s2=>∃x H',Inv X pb O H' s2/\RelV x u/\
  (∃T G J v1 v2,H T=none/\Qx v1 G/\Qy v2 J/\x= .b T/\H'=upd H T (.b [G,J]))/\tn s2.heap/\∀b∈[z,l,h,N,m],H' b=none) E s1) E s:=by
 refine Qj D U Y hz B M h1 h2 l1 l2 λx y Q tk p1 p2 a1 a2 a3 a4 a5 a6 a7=>⟨_,rfl,wpAny_letOwnedTupleGo_zip a1 λf p d=>?_⟩
 replace d:bC z Q f:=d
 obtain⟨G,r1,e1⟩:=y1 x p1;obtain⟨J,r2,e2⟩:=y2 y p2;have R:z<s.1.1.size:=ax hz;have C:f.get? s.1.1.size=ae {cls:= .type "tuple",data:= .seq #[x,y]}:=(d.2 _ (eF R)).trans a5;have ob:pE X.d X.w (upd H s.1.1.size (.b [G,J])) f s.1.1.size (.b [G,J]):=⟨(by show 2<=sizeLine;decide),[x,y], .cons r1 (.cons r2 .nil),⟨_,C,rfl,_,rfl⟩⟩;have I2:Inv X pb O (upd H s.1.1.size (.b [G,J])) {s with heap:=f,toks:=tk}:=I.rA hf (λb u j q=>(d.2 b (λz=>j (by simp[z]))).trans (a7 b u (λz=>j (by simp[z])) (λz=>j (by simp[z])) (λz=>j (by simp[z])) (λz=>j (by simp[z])) q)) (am _) ob;have n:∀c o,c≠z->Q.get? c=ae o->f.get? c=ae o:=λc o S e=>(d.2 c S).trans e;refine⟨.b s.1.1.size,_,I2,rfl,⟨s.1.1.size,G,J,x,y,I.a.J (am _),e1,e2,rfl,rfl⟩,Z f x y p (n _ _ D.f (a7 _ _ D.f D.c D.d D.b B)) (n _ _ D.a a2) (U.frame _ _ _ a3 λc S o e=>n c o (λq=>D.g (q▸S)) e) (Y.frame _ _ _ a4 λc S o e=>n c o (λq=>D.h (q▸S)) e),λb j=>?_⟩;have t:b<s.1.1.size:=by
  simp only[aL,d0,kS]at j;rcases j with e|e|e|e|e
  .rw[e];exact R
  .rw[e];exact ax B
  .rw[e];exact ax M
  .rw[e];obtain⟨_,q⟩:=U.live _ _ h1;exact ax q
  .rw[e];obtain⟨_,q⟩:=Y.live _ _ h2;exact ax q
 rw[AG (aT t)];exact(hf b j).1
end
def YY(k:ay)(x:Str)(t:Tok):∀A:fL,A.handled=none->j5 P w A k [k] x.cps.size (λi v=>∃c u,x.cps[i]? =ae c/\v= .str ⟨#[c]⟩ u) (λi h=>h.IsStrIter k (f8 x) x t i):=λA b=>by
 cases d:x.cps.all (· <128)
 .have e:f8 x="str_iterator":=by simp[f8,d]
  rw[e];exact nJ b _ x t
 .have e:f8 x="str_ascii_iterator":=by simp[f8,d]
  rw[e];exact m7 b _ x t
section
variable{a b:dH}{ta:TA}{p pos:Pos}{k:Nat}
def YR{O:pz}{s:ak}(I:Inv X pb O H s):∀b∈[s.1.1.size+4,s.1.1.size+2,s.1.1.size+3,s.1.1.size,s.1.1.size+1],BZ X pb H b:=λb d=>by
 have:s.1.1.size<=b:=by
  simp only[aL,d0,kS]at d;rcases d with e|e|e|e|e<;>lia
 exact I.sJ this (I.a.J this)
def ZX(n:Nat):tK (n+4) (n+2) (n+3) n (n+1) [n] [n+1]:=by
 constructor<;>simp<;>lia
end
end
end Lake
namespace PySem
open PySem.Sem (wp)
variable{j:ay}
abbrev lit(l:ay):Obj:={cls:= .type "list_iterator",data:= .fields #[.ref l, .int 0 0]}
open PySem.Sem (wp)
section
variable{s:ak}
set_option tactic.hygienic true in
def YD{u:ay}{c}{y:ai}(d:s.heap.IsTupleIter j u n)(i:s.heap.IsTuple u c)(z:c[n]? =ae y)
 (B:∀e,e.IsTupleIter j u (n+1)->bC j s.heap e->Q y {s with heap:=e}):aO (aV prog w) A (cj (.ref j)) Q E s:=by
 obtain⟨o,b,G,a⟩:=id d;obtain⟨q,H,_,m,I⟩:=i;unfold cj;refine ac (cz (name:=fF "__next__") d.typeIs F.slot_tuple_iterator_next (cC F.slot_tuple_iterator_next d.typeIs F.entry_tuple_iterator_next ?_ (F.args_tuple_iterator_next_1 _)));show aO _ _ (nU (.ref j) 0>>=_) _ _ s;refine ac (cO b a (x:= .ref u) rfl ?_);show aO _ _ (if(aj u==dr)=aw then _ else _) _ _ s;rw[aP (show¬ ((aj u==dr)=aw)from av)];show aO _ _ (nU (.ref j) 1>>=_) _ _ s;refine ac (cO b a (x:= .int n 0) rfl ?_);show aO _ _ (mH (.ref u)>>=_) _ _ s;refine ac (dz H I ?_);simp only[fb,z];refine ac (cQ b a b' (ah ⟨y,rfl,ah (B _ ⟨_,bB _ b (cZ (bY a _)),(fP ..).trans G,?_⟩ (cA ..))⟩));rw[bY a];simp[c7]
set_option tactic.hygienic true in
def Rg{u:ay}{f}(y:A.handled=none)(b:s.heap.IsTupleIter j u n)(z:s.heap.IsTuple u f)(B:f[n]? =none)
 (G:∀d e,jh j s.heap d->(∃o,d.get? e=ae o/\o.cls= .type "StopIteration")->E (.ref e) {s with heap:=d}):aO (aV prog w) A (cj (.ref j)) Q E s:=by
 obtain⟨o,i,J,c⟩:=id b;obtain⟨q,H,_,m,I⟩:=z;unfold cj;refine ac (cz (name:=fF "__next__") b.typeIs F.slot_tuple_iterator_next (cC F.slot_tuple_iterator_next b.typeIs F.entry_tuple_iterator_next ?_ (F.args_tuple_iterator_next_1 _)));show aO _ _ (nU (.ref j) 0>>=_) _ _ s;refine ac (cO i c (x:= .ref u) rfl ?_);show aO _ _ (if(aj u==dr)=aw then _ else _) _ _ s;rw[aP (show¬ ((aj u==dr)=aw)from av)];show aO _ _ (nU (.ref j) 1>>=_) _ _ s;refine ac (cO i c (x:= .int n 0) rfl ?_);show aO _ _ (mH (.ref u)>>=_) _ _ s;refine ac (dz H I ?_);simp only[fb,B];refine ac (fk (ac (cQ i c b' ?_)));show aO _ _ (nQ (.type "StopIteration") []>>=_) _ _ _;refine ac ?_;simp only[nQ,newTuple];refine ac (bX ?_ (by size_fits));refine ac (m:=fV _ _) (fg (a:=dr) (by first|rfl|(simp only[fV];rfl)) ?_);refine bX ?_ (by size_fits);simp only[raiseNew];refine ac (wpAny_handled ?_)
 first|rw[show A.in1.handled=none from y]|rw[y]
 refine ac (ah (wpAny_throw ?_));exact G _ _ (((cA ..).extBut.push _).push _) ⟨_,aq _ rfl,rfl⟩
end
def Uz(G:A.handled=none)(j u:ay)(z:u≠j)(x:Array ai):j5 prog w A j [j,u] x.size (λi v=>x[i]? =ae v) (λi h=>h.IsTupleIter j u i/\h.IsTuple u x) where
 live:=λ_ _ d=>let⟨o,B,_⟩:=d.1;⟨o,B⟩
 frame:=λ_ _ _ d hk=>⟨d.1.at λo e=>hk j b' o e,let⟨o,B,r⟩:=d.2;⟨o,hk u b' o B,r⟩⟩
 item:=λi s Q E c d H=>YD d.1 d.2 (y:=x[i]) (by simp[c]) λI a b=>H _ I s.toks (by simp[c]) ⟨a,d.2.extBut b.extBut z⟩ b
 done:=λs Q E d J=>Rg G d.1 d.2 b' J
abbrev zk(l:ay):Obj:={cls:= .type "tuple_iterator",data:= .fields #[.ref l, .int 0 0]}
end PySem
namespace Lake
def rO(K:aB)(a:ay)(xs:gr):Prop:=∃ (o:Obj) (b:Array ai) (n:Nat),K.lookup a=ae o/\o.cls= .type "tuple"/\o.data= .seq b n/\b.size<=sizeLine/\Vals xs b.toList
def rO.J{a:ay}(h:rO K a xs):pX K H a xs:= .inr h
section
variable{b:Nat}
def pw(k c b:Nat):Int:=(pO (ones k) c).getD b 0
def ws(k:Nat):gk->gk->Int
 |[],[]=>1
 |[],_::_=>0
 |c::r,st=>sm k (λp=>pw k c (2*p)*ws k r (p::st))+(match st with|[]=>0|o::a=>pw k c (2*o+1)*ws k r a)
variable{k:Nat}
def Xo(h:b<2*k):pw k 63 b=1:=by
 unfold pw;rw[Vr];unfold ones;rw[ag,jg,aU h];rfl
def Yf(h:pN[b]? =ae c):b<8:=by
 have:=(aR.mp h).1;exact this
def ZJ{d:Nat}(j:b<2*k)(x:b<8)(h:pN[d]? =ae c):pw k c b=if b=d then 1 else 0:=by
 have y:=Yf h;have z:c≠63:=by
  rintro rfl
  revert h
  have:d=0\/d=1\/d=2\/d=3\/d=4\/d=5\/d=6\/d=7:=by lia
  rcases this with rfl|rfl|rfl|rfl|rfl|rfl|rfl|rfl<;>decide
 unfold pw pO;rw[aP z,ag,ao,li];rw[aU (show b<(ones k).length by unfold ones;rw[dD];exact j)];have e:b=0\/b=1\/b=2\/b=3\/b=4\/b=5\/b=6\/b=7:=by lia
 have i:d=0\/d=1\/d=2\/d=3\/d=4\/d=5\/d=6\/d=7:=by lia
 rcases i with rfl|rfl|rfl|rfl|rfl|rfl|rfl|rfl<;>(cases h;rcases e with rfl|rfl|rfl|rfl|rfl|rfl|rfl|rfl<;>decide)
theorem LT(f:Nat->Int):∀k,sm (2*k) f=sm k λp=>f (2*p)+f (2*p+1)
 |0=>rfl
 |k+1=>by rw[show 2*(k+1)=2*k+1+1 by lia,sm,sm,LT f k,sm];lia
abbrev En:=gk×gk
def zC(n d c:Nat)(e:En)(b:Nat):List En:=
 if c=63\/c=pN.getD b 0 then
  (if b%2=0 then(if e.2.length+d+1<n then [(e.1++[pN.getD b 0],b/2::e.2)]else [])
   else match e.2 with
    |[]=>[]
    |p::r=>if p=b/2 then [(e.1++[pN.getD b 0],r)]else [])
 else []
def zB(k n b c:Nat)(e:En):List En:=(aH (2*k)).flatMap (zC n b c e)
def zc(k:Nat)(a:gk):Nat->List En
 |0=>[([],[])]
 |i+1=>(zc k a i).flatMap (zB k a.length i (a.getD i 0))
def res(k:Nat)(a:gk):List gk:=((zc k a a.length).filter λe=>decide (e.2=[])).map (·.1)
def wt(k:Nat)(r:gk)(L:List En):Int:=(L.map λe=>ws k r e.2).sum
end
def ZW(i j:Int):Prop:=0<j/\j<2^200
def Ug:pZ X (eN .FloorDiv) (rI ZW λi j=> .a (i/j)):=xh λi j _ _ _ _ _ b q=>by
 have x:(0:Int)<j:=b.1;have y:j<2^200:=b.2;refine floordiv_int (by omega) (by rw[iy i (by omega)];exact q) (.inl (PyProof.noPylong_of_log2 ?_));have d:j.natAbs≠0:=by omega
 have e:j.natAbs<2^200:=by omega
 exact eG ((oA d).mpr e) oY
def pq.Z(h:pq K H p xs):wJ K "list" (.b p) H:= .inl ⟨rfl,_,h⟩
section
variable{a:ay}{row:gk}{rest sts:List kh}{t:TS}{Q:VK}{E:XK}
def Po(H:Hp)(p:ay):Prop:=∃a b c:Int,H p=ae (.a [.a a, .a b, .a c])
def Po.J(h:Po H p)(s:pj H H'):Po H' p:=let⟨a,b,c,e⟩:=h;⟨a,b,c,s _ _ e⟩
def Po.Z{q:ay}(h:Po H p)(b:H q=none):q≠p:=let⟨_,_,_,e⟩:=h;(AQ e b).symm
def Po.ap{a b c:Int}:Po (upd H p (.a [.a a, .a b, .a c])) p:=⟨a,b,c,AF⟩
inductive uh(K:aB):Type
 |mk (a:ay) (ns:hO) (k:Int) (_:vs=[.b a, .a k]) (_:pq K H a (ns.map V.a)) (_:0<=k) (_:k<=63) (_:∀p H',H p=none->pj H H'->Po H' p->Q (.b p) H')
def Kd{k:Int}(d:pq K H a (ns.map V.a))(h:0<=k)(e:k<=63)(q:∀p b,H p=none->pj H b->Po b p->Q (.b p) b):uh K ([.b a, .a k]++[]) H Q E:=
 ⟨a,ns,k,rfl,d,h,e,q⟩
inductive sC:Type
 |mk (p m:_) (_:vs=[.b p, .a m]) (_:Po H p) (_:0<m) (_:m<2^200) (_:∀r H',0<=r->r<m->Po H' p->pf p H H'->Q (.a r) H')
def Ae{m:Int}(d:Po H p)(h:0<m)(e:m<2^200)(q:∀r b,0<=r->r<m->Po b p->pf p H b->Q (.a r) b):sC ([.b p, .a m]++[]) H Q E:=⟨p,m,rfl,d,h,e,q⟩
def Zs{o:HO}(s:pf p H H')(h:H a=none):pf p H (upd H' a o):=λb u z n=>by rw[AG (AQ z h)];exact s b u z n
def Eb(a:gk):(a.map λc=>[c]).flatten=a:=by
 induction a with
 |nil=>rfl
 |cons c r b=>rw[aY,cu,b];rfl
def My(h:j<n):qW n (j:Int)=ae j:=by
 unfold qW;simp[h]
def LO:Sp:=λvs H Q _=>∃ (p:ay) (k h:Int),vs=[.b p, .a k, .a h]/\Po H p/\1<=k/\k<=4/\0<=h/\h<=20/\
 ∀row b,Rt row->(row.length:Int)=2*h->(∀c∈row,sO k c)->Po b p->pf p H b->Q (tx row) b
def RS{k h:Int}(l:Po H p)(d:1<=k)(e:k<=4)(i:0<=h)(j:h<=20)
 (q:∀row b,Rt row->(row.length:Int)=2*h->(∀c∈row,sO k c)->Po b p->pf p H b->Q (tx row) b):LO ([.b p, .a k, .a h]++[]) H Q E:=⟨p,k,h,rfl,l,d,e,i,j,q⟩
inductive sD(cs:Cs):Type
 |mk (H0 s ad n T:_) (_:vs=[.b s]) (_:Tb H0 H s ad n T) (_:((T 0 n≠0/\Q .d H)\/(T 0 n=0/\Ref E cs.a H)))
inductive tX (X:Cx) (sts:List kh) (t:TS):Prop
 |mk (h:rm X sts t):tX X sts t
def tX.J(h:tX X sts t):rm X sts t:=h.casesOn λh=>h
def Dp{u:TS}(h:vx X st t)(r:tX X rest u):tX X (st::rest) (FA t u):=⟨AD h.J r.J⟩
def UN(h:vx X st t):tX X [st] t:=⟨AE h.J⟩
def JG:Sp:=λ_ _ _ _=>False
def gd:V->Bool
 | .a i=>decide (0<=i)
 |_=>au
def vz(k:Int):gk:=qP.take k.toNat++cls.take k.toNat
def Ho{k:Int}(h:c∈vz k):c∈sgn k:=cP _ h
def Hq{k:Int}(b:1<=k)(d:k<=4):(vz k).length=(2*k).toNat:=by
 unfold vz;rw[aN,cU,cU];simp[qP,cls];lia
def LL:Sp:=λvs H Q _=>∃k,vs=[.a k]/\1<=k/\k<=4/\Q (tx (vz k)) H
def Gj{k:Int}(b:1<=k)(d:k<=4)(q:Q (tx (vz k)) H):LL ([.a k]++[]) H Q E:=⟨k,rfl,b,d,q⟩
def MV:Sp:=λvs H Q _=>∃ (p:ay) (k:Int) (row:gk) (o:Int),vs=[.b p, .a k,tx row, .a o]/\Po H p/\1<=k/\k<=4/\AR k row=aw/\0<=o/\o<=1000/\
 ∀b d,b.length<=row.length->AR k b=aw->Po d p->pf p H d->Q (tx b) d
def Tg{k o:Int}(e:Po H p)(i:1<=k)(j:k<=4)(x:AR k row=aw)(y:0<=o)(z:o<=1000)
 (q:∀b d,b.length<=row.length->AR k b=aw->Po d p->pf p H d->Q (tx b) d):MV ([.b p, .a k,tx row, .a o]++[]) H Q E:=⟨p,k,row,o,rfl,e,i,j,x,y,z,q⟩
def MS:Sp:=λvs H Q _=>∃ (p:ay) (k m:Int),vs=[.b p, .a k, .a m]/\Po H p/\1<=k/\k<=4/\1<=m/\m<=40/\
 ∀row b,(row.length:Int)<=m->AR k row=aw->Po b p->pf p H b->Q (tx row) b
def Sk{k m:Int}(d:Po H p)(e:1<=k)(i:k<=4)(j:1<=m)(x:m<=40)
 (q:∀row b,(row.length:Int)<=m->AR k row=aw->Po b p->pf p H b->Q (tx row) b):MS ([.b p, .a k, .a m]++[]) H Q E:=⟨p,k,m,rfl,d,e,i,j,x,q⟩
end
section
variable{es:Array mY}{td tl:TE}
section
variable{O:pz}{s:ak}{a:ay}
def Inv.frozen(I:Inv X pb O H s)(e:H a=ae (.d ph))(j:s.heap.get? a=ae o):Inv X pb O (upd H a (.e o (.d ph))) s:=by
 refine I.step (h':=s.heap) (g':=s.gens) (d':=s.drawn) (t':=s.toks) (ch:=[]) (λ_ z=>nomatch z) (λb u _ _ _ q _=>q) (λb u _ _ _ q _=>⟨u.slots,q⟩) (λb u _ _ n=>?_) (λb u _ q=>⟨u,q⟩) (λb i q=>?_) (λb u i q=>?_) (λb f q=>⟨#[],?_⟩) (λm x=>x) ⟨λb u q=>?_,λu q=>?_,I.a.d⟩ I.d
 .rw[AG (λz=>by rw[z,e]at n;cases n)];exact n
 .rw[AG (λz=>by rw[z,e]at q;cases q)];exact q
 .rw[AG (λz=>by rw[z,e]at q;cases q)];exact q
 .rw[AG (λz=>by rw[z,e]at q;cases q)];simpa using q
 .by_cases d:b=a
  .subst d;rw[AF]at q;cases q;exact⟨j,(show pE X.d X.w H s.heap b (.d ph)from I.a b _ e)⟩
  .rw[AG d]at q;refine(I.a b u q).J (λc v _ z=>z) (λc z=>?_) λc i z=>?_
   .rw[AG (λy=>by rw[y,e]at z;cases z)];exact z
   .rw[AG (λy=>by rw[y,e]at z;cases z)];exact z
 .by_cases d:bL=a
  .rw[d,AF]at q;cases q;exact⟨_,_,rfl⟩
  .rw[AG d]at q;exact I.a.c u q
end
def yg(d:ay)(o:Obj)(ph:List (Key×V)):qo:=⟨λi H=>H d=ae (.e o (.d ph))/\i<ph.length,λi H x b=>b=H/\∃k v,ph[i]? =ae (k,v)/\x=kV k,λi H=>H d=ae (.e o (.d ph))/\i=ph.length⟩
theorem Nw{ph:List (Key×V)}{vs:List (Key×ai)}(z:KV ph vs):∀ {i:Nat} {k:Key} {u:ai},vs[i]? =ae (k,u)->∃v,ph[i]? =ae (k,v):=by
 induction z with
 |nil=>intro i k u h;simp at h
 |cons r t f=>
  intro i k u h;cases i with
  |zero=>simp at h;subst h;exact⟨_,cx ae (Prod.ext r.1 rfl)⟩
  |succ i=>exact f h
def Ny{k:Key}{v:ai}(h:(An P w).is k v=aw):RelV (kV k) v:=by
 rcases CS h with⟨i,t,rfl,rfl⟩|⟨x,t,rfl,rfl⟩
 .exact⟨t,rfl⟩
 .exact⟨t,rfl⟩
def M9{O:pz}{s:ak}(I:Inv X pb O H s)(e:H d=ae (.e o (.d ph)))(i:o.data= .dict es ep):
 ∃vs,KV ph vs/\s.heap.DictAt (An X.d X.w) d vs ep:=by
 obtain⟨g,_,_,vs,f,z,x,y,j,a,b,c⟩:=(show pE X.d X.w H s.heap d (.e o (.d ph))from I.a d _ e);rw[g]at j;cases j;rw[i]at b;cases b;exact⟨vs,f,o,es,g,a,i,c⟩
def SA{l:ay}(M:o.data= .dict es ep):
 Turn P w K tg (yg d o ph) [l] l (λi h=>h.IsKeyIter l d i ph.length ep) where
 g:=by simp
 e:=λi h j b T=>by
  obtain⟨o,M,_,q⟩:=j;have e:b=l:=by simpa using T
  subst e;exact⟨o,M,λv z=>by rw[q]at z;cases z⟩
 a:=λi h R j k=>j.at λo e=>k l b' o e
 c:=by
  intro X U Y Z t i D s C H E I L j p;subst U Y Z;obtain⟨B,N⟩:=p;obtain⟨a,rel,u⟩:=M9 I B M;have S:=rel.J;have G:d≠l:=λz=>by rw[z,(L l b').1]at B;cases B
  rw[S]at j;refine(m3 (I.e.k t) l d G a ep).item i s _ _ oZ ⟨j,u⟩ λv R c hv f g=>?_;obtain⟨k,x,V,hk⟩:=hv;obtain⟨J,_⟩:=f;obtain⟨y,O⟩:=Nw rel V;obtain⟨o1,m,r,q⟩:=id J;have I1:Inv X D C H {s with heap:=R,toks:=c}:=I.pP L g;rw[<-S]at J;exact⟨v,rfl,EA (s:={s with heap:=R,toks:=c}) (n:="dict_keyiterator") m r q oY ⟨kV k,H,I1,Ny hk,⟨rfl,k,y,O,rfl⟩,J,λb T=>(L b T).1⟩⟩
 d:=by
  intro X U Y Z t i D s C H E I L j p;subst U Y Z;obtain⟨B,N⟩:=p;obtain⟨a,rel,u⟩:=M9 I B M;have S:=rel.J;have G:d≠l:=λz=>by rw[z,(L l b').1]at B;cases B
  rw[N,S]at j;exact(m3 (I.e.k t) l d G a ep).done s _ _ ⟨j,u⟩ λR c g=>⟨rfl,I.pP L g⟩
 f:=λA i s Q E j h=>wpAny_pyIter_keyiter j h
def Oc(d:TE):TI:=λc H R=>d c H λx b=>∃a ph,x= .b a/\b a=ae (.d ph)/\∀o,R (yg a o ph) (upd b a (.e o (.d ph)))
def Vw{l:dH}(z:PE X l tl):PI X tg l (Oc tl):=by
 intro k s c H R I h;refine zz (z k s c H _ I h) λv d x B j G J=>?_;obtain⟨a,f,e,hk,q⟩:=J;subst e
 cases G
 obtain⟨T,m,n,rel,o,L,U,g,M,y,P⟩:=(show pE X.d X.w B d.heap a (.d f)from j.a a _ hk);have i:=j.frozen hk g;have Q:=rel.J;refine wpAny_pyIter_dict (knd:=An X.d X.w) m ⟨o,L,g,M,y,P⟩ ?_;refine⟨d.1.1.size,[d.1.1.size],_,_,_,rfl,i.ap (t':=d.toks) λb o e=>af _ e,SA y,?_,λb S=>?_,q o⟩
 .rw[Q];exact⟨_,aq _ rfl,rfl,rfl⟩
 .have e:b=d.1.1.size:=by simpa using S
  subst e;exact i.sJ (am _) (i.a.J (am _))
section
variable{O:pz}{Q:VK}
def Xe{k:TE}(h:td O H λx d=>k O d λy b=>∃a v,x= .b a/\pG b a y (ae v)/\Q v b):Ij td k O H Q:=h
def Vc{l k:TE}(h:td O H λx b=>∃a,x= .b a/\xc b a/\l O b λy e=>k O e λz d=>∃o,pG d a y o/\Q (o.getD z) d):NR td l k O H Q:=h
def Xa{k l:TE}(h:l O H λv d=>td O d λx e=>k O e λy i=>∃a b,x= .b a/\qX i a y v b/\D.nx O b):OO td k l D O H:=h
def VZ{R:qo->Hp->Prop}(h:tl O H λx b=>∃a ph,x= .b a/\b a=ae (.d ph)/\∀o,R (yg a o ph) (upd b a (.e o (.d ph)))):Oc tl O H R:=h
end
end
def Ay{k:Nat}(r:pM k A):A.units+1<iw:=by have:=r.b;lia
section
variable{I a:ay}{es es':Array (Int×ai)}{G:Array nI->Array nI->Prop}{hs:Array Int}{o xs:Array Nat}{items:Array ai}{gw:Bool->Sem Unit}{e:Int×ai}{d:Nat}{f:Nat->ai}{P:Nat->ai->Prop}{Q:Option ai->ak->Prop}{t':iC}
def qC(a:Array Nat):Prop:=a.toList.Pairwise (· < ·)
def qC.Z{a:Array Nat}(r:qC a){x y:Nat}(b:i<j)(z:a[i]? =ae x)(B:a[j]? =ae y):x<y:=by
 have d:a.toList[i]? =ae x:=by simpa using z
 have e:a.toList[j]? =ae y:=by simpa using B
 obtain⟨c,rfl⟩:=aR.mp d;obtain⟨G,rfl⟩:=aR.mp e;exact(List.pairwise_iff_getElem.mp r) i j c G b
theorem He(xs:Array Nat)(r:qC xs)(j:Nat):∀ (f lo a:Nat),a-lo<=f->lo<=a->a<=xs.size->(∀i x,i<lo->xs[i]? =ae x->x<j)->(∀i x,a<=i->xs[i]? =ae x->j<=x)->
 fN xs j f lo a<=xs.size/\(∀i x,i<fN xs j f lo a->xs[i]? =ae x->x<j)/\(∀i x,fN xs j f lo a<=i->xs[i]? =ae x->j<=x)
 |0,lo,a,L,M,y,z,B=>by
  have:lo=a:=by lia
  subst this;unfold fN;exact⟨y,z,B⟩
 |f+1,lo,a,L,M,y,z,B=>by
  unfold fN
  by_cases e:lo<a
  .rw[aU e]
   dsimp only
   have P:(lo+a)/2<a:=by lia
   have Q:lo<=(lo+a)/2:=by lia
   have J:(lo+a)/2<xs.size:=by lia
   have b:xs[(lo+a)/2]? =ae xs[(lo+a)/2]:=bj J;have R:xs.getD ((lo+a)/2) j=xs[(lo+a)/2]:=by simp[kf,J]
   rw[R]
   by_cases G:xs[(lo+a)/2]<j
   .rw[aU G];refine He xs r j f _ _ oZ oZ y (λi x H d=>?_) B
    by_cases I:i=(lo+a)/2
    .subst I;rw[b]at d;cases d;exact G
    .exact eG (r.Z oZ d b) G
   .rw[aP G];refine He xs r j f _ _ oZ oZ oZ z (λi x H d=>?_)
    by_cases I:i=(lo+a)/2
    .subst I;rw[b]at d;cases d;lia
    .have:=r.Z (show(lo+a)/2<i by lia) b d;lia
  .rw[aP e];have:lo=a:=by lia
   subst this;exact⟨y,z,B⟩
def Ff(r:qC xs)(j:Nat):cy xs j<=xs.size/\(∀i x,i<cy xs j->xs[i]? =ae x->x<j)/\(∀i x,cy xs j<=i->xs[i]? =ae x->j<=x):=
 He xs r j xs.size 0 xs.size oZ (bt _) (am _) (λi x h=>absurd h (il _)) λi x h b=>by
  have:=dW (xs:=xs) h;rw[this]at b;cases b
def R3(r:qC xs){x:Nat}(d:xs[i]? =ae x):cy xs (x+1)=i+1:=by
 obtain⟨z,j,y⟩:=Ff r (x+1);have f:i<xs.size:=(bF.mp d).1;rcases Nat.lt_trichotomy (cy xs (x+1)) (i+1)with h|h|h
 .have:=y i x oZ d;lia
 .exact h
 .have e:i+1<xs.size:=by lia
  have c:xs[i+1]? =ae xs[i+1]:=bj e;have a:=j (i+1) _ h c;have b:=r.Z (cp i) d c;lia
def R1(r:qC xs):cy xs 0=0:=by
 obtain⟨d,b,e⟩:=Ff r 0;rcases Nat.eq_zero_or_pos (cy xs 0)with h|h
 .exact h
 .have a:xs[0]? =ae (xs[0]'(by lia)):=bj _;have:=b 0 _ h a;lia
def QO(xs:Array α)(p:Nat)(x:α):(iX xs p x).toList=xs.toList.take p++x::xs.toList.drop p:=by
 unfold iX;simp;rw[dS b']
theorem qC.J(r:qC xs)(J:∀i:Nat,xs[i]? ≠ae j):qC (iX xs (cy xs j) j):=by
 obtain⟨M,L,I⟩:=Ff r j;generalize cy xs j=p at*
 unfold qC;rw[QO];refine List.pairwise_append.mpr ⟨j2 (lM _ _) r,List.pairwise_cons.mpr ⟨λy x=>?_,j2 (List.drop_sublist _ _) r⟩,λy x z hz=>?_⟩
 .obtain⟨i,g,e⟩:=eO.mp x;rw[lN]at e;have f:xs[p+i]? =ae y:=by rw[<-cg,<-e];exact al _
  have a:=I (p+i) y oZ f;have b:=J (p+i);have c:y≠j:=λd=>b (d▸f);lia
 .obtain⟨i,g,e⟩:=eO.mp x;have B:i<p:=by have:=g;rw[cU]at this;lia
  rw[List.getElem_take]at e;have f:xs[i]? =ae y:=by rw[<-cg,<-e];exact al _
  have G:=L i y B f;rcases aL.mp hz with rfl|hz
  .exact G
  .obtain⟨k,hk,d⟩:=eO.mp hz;rw[lN]at d;have H:xs[p+k]? =ae z:=by rw[<-cg,<-d];exact al _
   have:=I (p+k) z oZ H;lia
def Kj(r:qC t.place)(h:t.place[cy t.place d]? ≠ae d):∀i:Nat,t.place[i]? ≠ae d:=by
 obtain⟨y,j,x⟩:=Ff r d;intro i c;rcases l4 i (cy t.place d)with hl|hl
 .have:=j i d hl c;lia
 .have b:cy t.place d<t.place.size:=dE hl (bF.mp c).1;have f:t.place[cy t.place d]? =ae _:=bj b;have a:=x _ _ (am _) f;rcases Nat.eq_or_lt_of_le hl with e|e
  .rw[<-e]at c;exact h c
  .have:=r.Z e f c;lia
def LU(h:t.slot d= .empty\/t.slot d= .dummy):t.place[cy t.place d]? ≠ae d:=by
 intro e;unfold SetTable.slot at h;simp[e]at h
theorem HN(t:iC)(f:Nat->Int)(h:Int):∀ (n:Nat) (p:SetTable.Probe) (j:Nat) (d:Option Nat),(∀x,p.dummy=ae x->t.slot x= .dummy)->iW t f h n p=ae (.empty j d)->(t.slot j= .empty)/\∀x,d=ae x->t.slot x= .dummy
 |0,p,j,d,z,e=>by unfold iW at e;cases e
 |n+1,p,j,d,z,e=>by
  unfold iW at e
  cases b:t.slot p.j with
  |empty=>rw[b]at e;simp at e;obtain⟨rfl,rfl⟩:=e;exact⟨b,z⟩
  |dummy=>
   rw[b]at e;refine HN t f h n _ j d (λx y=>?_) e;have:(t.advance {p with dummy:=ae p.j}).dummy=ae p.j:=by unfold ml;dsimp only;split<;>rfl
   rw[this]at y;cases y;exact b
  |live i=>
   rw[b]at e
   dsimp only at e
   split at e
   .cases e
   .refine HN t f h n _ j d (λx y=>?_) e;have:(t.advance p).dummy=p.dummy:=by unfold ml;dsimp only;split<;>rfl
    rw[this]at y;exact z x y
set_option tactic.hygienic true in
def Ut(r:qC t.place){h:Int}{b:Bool}(e:t.freeSlot h=ae (j,b)):∀i:Nat,t.place[i]? ≠ae j:=by
 unfold SetTable.freeSlot at e
 split at e
 .rename_i B d G
  obtain⟨H,I⟩:=HN t _ _ _ _ B d (λx z=>by unfold SetTable.probeStart at z;cases z) G;simp at e;obtain⟨y,J⟩:=e
  cases d with
  |none=>simp at y;subst y;exact Kj r (LU (.inl H))
  |some x=>simp at y;subst y;exact Kj r (LU (.inr (I x rfl)))
 .cases e
def RR(n:Nat):qC (Array.range n):=by
 unfold qC;rw[Array.toList_range];exact jB
def TbT(l:Bool)(t:iC):Prop:=qC t.place/\t.led=l
def TbT.ap{l:Bool}(h:TbT l t)(n:Nat):TbT l (t.standIn n):=⟨RR n,h.2⟩
def Sl{l:Bool}(h:TbT l t)(y:Array (Int×ai))(d:Int)(x:ai):TbT l (layNew t y d x).2.1:=by
 unfold layNew
 cases e:t.freeSlot d with
 |none=>exact h.ap _
 |some z=>
  obtain⟨i,b⟩:=z;have r:=h.1.J (Ut h.1 e);have j:TbT l (t.put i).1:=⟨r,h.2⟩;show TbT l (k9 (t.put i).1 _);unfold k9
  split
  .exact j
  .exact j.ap _
def WI{m f k:Nat}{l p:Bool}(e:nG m f k l p hs=ae (t,o)):TbT l t:=by
 unfold nG at e
 cases j:SetTable.layClean m hs with
 |none=>rw[j]at e;cases e
 |some z=>
  rw[j]at e;simp at e;obtain⟨y,B⟩:=e;subst y;refine⟨?_,rfl⟩;unfold qC;simp only[];refine lP _ (λa b h=>h) (R:=fun(a b:Nat×Nat)=>a.1<b.1) ?_;refine List.Pairwise.filterMap _ (R:=fun(a b:Nat)=>a<b) (λa b i c x d g=>?_) jB;simp at x g;obtain⟨_,_,rfl⟩:=x;obtain⟨_,_,rfl⟩:=g;exact i
def Qi{l:Bool}(h:TbT l t)(b:Array (Int×ai))(d:Nat):TbT l (kQ t b d).2.1:=by
 unfold kQ
 cases e:t.relaid (b.map (·.1)) d with
 |none=>exact h.ap _
 |some p=>
  obtain⟨i,o⟩:=p
  dsimp only
  unfold SetTable.relaid at e;have:=WI e
  split
  .exact⟨this.1,this.2.trans h.2⟩
  .exact h.ap _
def keyOf(e:Int×ai):Int:=match e.2 with| .int k _=>k|_=>0
section
variable{s:ak}
def rH{k:Int}{v:ai}(h:(ik prog w).is k v=aw):∃t,v= .int k t:=lH h
def qAT{k:Int}(h:(ik prog w).is k e.2=aw):keyOf e=k:=by
 obtain⟨t,a⟩:=rH h;unfold keyOf;rw[a]
def Ly{l:List (Int×ai)}(h:ElemsOf (ik prog w) l)(b:e∈l):(ik prog w).is (keyOf e) e.2=aw:=by
 obtain⟨⟨k,hk,_⟩,_⟩:=h e b;rw[qAT hk];exact hk
theorem Mz:∀ {b:List (Int×ai)},ElemsOf (ik prog w) b->iI (b.map (·.2)) (b.map keyOf)
 |[],_=> .nil
 |e::r,h=>by
  obtain⟨t,a⟩:=rH (Ly h (.head _));rw[aY,aY,a];exact .cons _ _ (Mz h.tail)
def SO(prog:bW)(w:dh)(l:Bool)(b:Array (Int×ai))(t:iC)(d:hO):Prop:=
 ElemsOf (ik prog w) b.toList/\(b.toList.map keyOf).Nodup/\(∀k,k∈b.toList.map keyOf↔k∈d)/\b.size<=d.length/\t.fits b.size=aw/\TbT l t
def SI(prog:bW)(w:dh)(l:Bool)(h:dg)(a:ay)(d:hO):Prop:=
 ∃o b e t,h.get? a=ae o/\o.ExactSet/\o.data= .set b e t/\SO prog w l b t d
def SI.J{l:Bool}{h:dg}(i:SI prog w l h a ms)(k:∀o,h.get? a=ae o->h'.get? a=ae o):SI prog w l h' a ms:=by
 obtain⟨o,b,d,t,e,r⟩:=i;exact⟨o,b,d,t,k o e,r⟩
def SO.J{l:Bool}(i:SO prog w l es t ms)(p:List.Perm es'.toList es.toList)(f:t'.fits es'.size=aw)(b:TbT l t'):SO prog w l es' t' ms:=by
 obtain⟨d,e,j,x,y,z⟩:=i;have B:es'.size=es.size:=by rw[<-cB,p.length_eq,cB]
 exact⟨d.perm p,(p.map keyOf).nodup_iff.mpr e,λk=>((p.map keyOf).mem_iff).trans (j k),by lia,f,b⟩
def stored{l:Bool}{h:dg}{o:Obj}(d:h.get? a=ae o)(b:o.ExactSet)(k:o.data= .set es ep t)(i:SO prog w l es' t' ms):
 (h.update a (lK es' t')).get? a=ae {o with data:= .set es' (ep+1) t'}/\SI prog w l (h.update a (lK es' t')) a ms:=by
 have g:=bB (lK es' t') d (by rw[putSet_of es' t' k];rfl);rw[putSet_of es' t' k]at g;exact⟨g,_,es',ep+1,t',g,b,rfl,i⟩
def MF(k:∀ (b:Bool) (d:ak) (y:Unit->ak->Prop),y () d->aO (aV prog w) A (gw b) y E d){l:Bool}{o:Obj}{es1:Array (Int×ai)}{t2:iC}(z:s.heap.get? a=ae o)(e:o.ExactSet)(h:o.data= .set es ep t)
 (i:SO prog w l es1 t2 ms) (B:ms.length<ij) {m:Bool} {R:Option Bool->ak->Prop} (q:∀j,bC a s.heap j->SI prog w l j a ms->R (ae aw) {s with heap:=j}):
 aO (aV prog w) A (do
  storeSet a es1 t2
  if(!m&&t2.tooFull)=aw then do
   gw (kQ t2 es1 (fu es1.size)).2.2
   storeSet a (kQ t2 es1 (fu es1.size)).1 (kQ t2 es1 (fu es1.size)).2.1
   pure (ae aw)
  else pure (ae aw)) R E s:=by
 have x:es1.size<=sizeLine:=lF (dE i.2.2.2.1 B);refine ac (lz z h ?_ x);obtain⟨G,J⟩:=stored z e h i;have H:=cA s.heap a (lK es1 t2)
 split
 .have p:=relayAll_perm t2 es1 (fu es1.size);have f:=relayAll_fits t2 es1 (fu es1.size);have b:=Qi i.2.2.2.2.2 es1 (fu es1.size);generalize kQ t2 es1 (fu es1.size)=c at p f b⊢;obtain⟨L,M,P⟩:=c
  dsimp only at p f b⊢
  have I:=i.J p f b;refine ac (k _ _ _ (ac (lz G rfl ?_ (lF (dE I.2.2.2.1 B)))));exact ah (q _ (H.trans (cA _ a _)) (stored G e rfl I).2)
 .exact ah (q _ H J)
def RQ{l:Bool}{k:Int}{h:Tok}{Q:Bool->ak->Prop}(i:SI prog w l s.heap a ms)(hb:ms.length+1<ij)
 (q:∀b J,bC a s.heap J->SI prog w l J a (ms++[k])->Q b {s with heap:=J}):aO (aV prog w) A (setAddHashed a (.int k h) (kD k)) Q E s:=by
 obtain⟨o,d,ep,t,P,L,m,B,R,G,a1,X,S⟩:=i;have H:(ik prog w).is k (.int k h)=aw:=intKind_is _ _ _ _;have Y:d.size<ij:=by lia
 unfold setAddHashed setAddHashedIn;refine cJ (ac (eS P m X ?_))
 dsimp only
 rw[byScan_of (knd:=ik prog w) rfl Y B];simp only[↓reduceIte];unfold setAddByScan;refine ac (ac (fk (ac (wpAny_setScan_of (knd:=ik prog w) H P m X B ?_))))
 cases V:List.findIdx? (λe=>(ik prog w).is k e.2) d.toList with
 |some j=>
  dsimp only
  obtain⟨hj,Z,_⟩:=List.findIdx?_eq_some_iff_getElem.mp V;have hk:k∈ms:=(G k).mp (by rw[<-qAT Z];exact List.mem_map_of_mem (d2 hj));refine ah (ah ?_);have D:s={s with heap:=s.heap}:=by cases s;rfl
  rw[D];refine q _ s.heap (Heap.SameBut.refl a s.heap) ⟨o,d,ep,t,P,L,m,B,R,λu=>(G u).trans ⟨λz=>cP _ z,λz=>?_⟩,by rw[aN];lia,X,S⟩;rcases cS.mp z with z|z
  .exact z
  .rw[aS.mp z];exact hk
 |none=>
  dsimp only
  have hk:k∉d.toList.map keyOf:=λz=>by
   obtain⟨e,he,v⟩:=bJ.mp z;have K:=List.findIdx?_eq_none_iff.mp V e he;rw[<-v,Ly B he]at K
   cases K
  have p:=layNew_perm t d (kD k) (.int k h);have f:=layNew_fits t d (kD k) (.int k h);have b:=Sl S d (kD k) (.int k h);show aO _ _ (match layNew t d (kD k) (.int k h)with|(d,t,g,a0)=>_) _ _ _;generalize layNew t d (kD k) (.int k h)=Ln at p f b⊢;obtain⟨M,n,dm,gv⟩:=Ln
  dsimp only at p f b⊢
  rw[gW]at p;have hz:M.size=d.size+1:=by rw[<-cB,p.length_eq,aN,cB];rfl
  have N:keyOf (kD k, .int k h)=k:=rfl;have O:SO prog w l M n (ms++[k]):=by
   refine⟨(B.push H rfl).perm p,(p.map keyOf).nodup_iff.mpr ?_,λu=>((p.map keyOf).mem_iff).trans ?_,by rw[hz,aN];simp;lia,f,b⟩
   .rw[b0,aY,fH,N];exact List.nodup_append.mpr ⟨R,by simp,λx hx y hy=>by rw[aS.mp hy];exact λe=>hk (e▸hx)⟩
   .rw[b0,aY,fH,N,cS,cS,G u]
  have C:∀ (b:Bool) {c:ak} {T:Unit->ak->Prop},T () c->aO (aV prog w) A (match b with|true=>rule "set.scan.the-table-gave-way"|false=>pure ()) T E c:=
   λb c T I=>by cases b<;>first|exact ah I|exact fk I
  refine ac (C _ ?_);have U:(ms++[k]).length<ij:=by rw[aN];simpa using hb
  split
  .refine ac ?_;rw[hashByValue_scannable 8 (x:= .int k h) rfl];refine ah ?_;refine MF ?_ P L m (t2:=if plainKind (.int k h)=aw then n else{n with plain:=au}) (show SO prog w l M _ (ms++[k])from O) U ?_
   .intro b c T I;cases b<;>first|exact ah I|exact fk I
   .intro J r z;dsimp only;exact ah (q _ J r z)
  .refine ac (ah ?_);simp only[↓reduceIte];refine MF ?_ P L m O U ?_
   .intro b c T I;cases b<;>first|exact ah I|exact fk I
   .intro J r z;dsimp only;exact ah (q _ J r z)
theorem Vn{u h:List ay}{m:Nat->ak->Prop}{l:Bool}(ns:hO)(W:WalksS prog w A.in1 I u h G ns.length P m)(S:ay)(Y:S∉u)
 (N:∀i v,i<ns.length->P i v->∃t,v= .int (ns.getD i 0) t) (O:ns.length+1<ij):∀ (k i:Nat) (s:ak),ns.length-i=k->i<=ns.length->m i s->SI prog w l s.heap S (ns.take i)->
   (∀d,Moved (S::h) G s d->SI prog w l d.heap S ns->R (.ok (.ret .none)) d)->dM (aV prog w) A (.builtin "set.update.loop" ⟨[.ref S, .ref I],[]⟩) R s:=by
 have j:S∉h:=λz=>Y (W.sub _ z);have f:∀b∈h,b∈S::h:=λb z=> .tail _ z;intro k
 induction k with
 |zero=>
  intro i s hk p H B q;have e:i=ns.length:=by lia
  subst e;refine cD F.entry_set_update_loop ?_;rw[bU F.plain_set_update_loop _];show aO _ A.in1 (fA (.ref I)>>=_) _ _ s;refine ac (W.done s _ _ H λd x=>?_);show aO _ A.in1 (ret dr) _ _ d;refine ah (q d (x.mono f) ?_);rw[dZ]at B;exact B.J λo J=>x.heap S o j J
 |succ k n=>
  intro i s hk p H B q;have a:i<ns.length:=by lia
  refine cD F.entry_set_update_loop ?_;rw[bU F.plain_set_update_loop _];show aO _ A.in1 (fA (.ref I)>>=_) _ _ s;refine ac (W.item i s _ _ a H λv d hP L x=>?_);obtain⟨t,rfl⟩:=N i v a hP;have M:=B.J (h':=d.heap) λo J=>x.heap S o j J;have Q:(ns.take i).length+1<ij:=by rw[cU];lia
  have r:ns.take i++[ns.getD i 0]=ns.take (i+1):=by
   rw[cL,al a,ag,al a];rfl
  show aO _ A.in1 (gQ [fW (ns.getD i 0) t] (setAdd S (.int (ns.getD i 0) t))>>=_) _ _ d;refine ac (cJ ?_);unfold setAdd;refine cJ (ac ((ik prog w).pyHash (k:=ns.getD i 0) (intKind_is _ _ _ _) ?_));refine RQ (s:={d with toks:=d.toks+1}) M Q λb C Z y=>?_;rw[r]at y;refine ah ⟨fh F.plain_set_update_loop _,n (i+1) _ oZ a (W.frame _ d _ _ L (f' _) λc T o e=>?_) y λg U X=>?_⟩
  .rw[Z.2 c (λz:c=S=>Y (z▸T))];exact e
  .refine q g (Moved.trans W.gtrans ((x.mono f).then_heap (f' _) λc o T e=>?_) U) X;rw[Z.2 c (λz:c=S=>T (z▸aG))];exact e
def rh(w:dh):Bool:=w.params.followText "set-order"
def WD(a:ai){Q:ai->ak->Prop}(q:Q (.ref s.1.1.size) {s with heap:=s.heap.push {cls:= .type "set",dict:=none,data:= .set #[] 0 (.fresh 0 0 (!rh w))}}):
 dM (aV prog w) A (.call (.builtin "set.__new__") ⟨[.type "set",a],[]⟩) (wants Q E) s:=by
 refine jK ?_;show aO _ A.in1 (do mj "set.__new__" ⟨[.type "set",a],[]⟩;nX (.builtin "set.__new__" ⟨[.type "set",a],[]⟩)) _ _ s;refine ac (fg (F.newCall_set_1 a) (ah ⟨fh F.plain_set_new _,cD F.entry_set_new ?_⟩));rw[bU F.plain_set_new _];unfold dR.«set.__new__» Builtin.Frozenset.newClass;have b:=sub_set_self;obtain⟨e,g,d,i,c⟩:=s
 dsimp only
 wp_walk
 refine dX (ah ?_)
 dsimp only
 simp only[newObj];refine ac (wpAny_alloc (ah ?_));exact ah q
def Yg{h:dg}{l:Bool}{o:Obj}(e:h.get? a=ae o)(b:o={cls:= .type "set",dict:=none,data:= .set #[] 0 (.fresh 0 0 l)}):SI prog w l h a []:=by
 subst b;exact⟨_,#[],0, .fresh 0 0 l,e,⟨rfl,rfl,rfl⟩,rfl,λe d=>by simp at d,by simp,by simp,am _,rfl,lO,rfl⟩
def vu{l:ay}{Q:ai->ak->Prop}(hh:A.handled=none)(hl:s.heap.IsList l items)(hi:iI items.toList ns)(hb:ns.length+1<ij)
 (q:∀ (j:dg) (g:Nat),SI prog w (!rh w) j s.1.1.size ns->(∀b o,b<s.1.1.size->s.heap.get? b=ae o->j.get? b=ae o)->s.1.1.size<j.objs.size->Q (.ref s.1.1.size) {s with heap:=j,toks:=g}):
 aO (aV prog w) A (call (.type "set") [.ref l]) Q E s:=by
 obtain⟨c,tl,a1⟩:=F.called_set.mro;have n:=F.called_set.made;have O:=F.called_set.sub;have L:items.size=ns.length:=by rw[<-cB,IntsAre.length hi]
 refine gb (jK ?_);show aO _ _ (callAny (.type "set") _) _ _ _;refine ah ⟨lu _ bg,cD F.entry_type_call ?_⟩;rw[Around.under_plain (weight_type_call_type "set" [.ref l] []) rfl];have h1:=F.called_set.notType;have h2:=F.called_set.canCreate;have a4:=F.typeCall_set_1 (.ref l)
 repeat(any_goals(first|assumption|wp_step))
 refine dB (WD (.ref l) (E:=E) (Q:=λa B=>a= .ref s.1.1.size/\B={s with heap:=s.heap.push {cls:= .type "set",dict:=none,data:= .set #[] 0 (.fresh 0 0 (!rh w))}}) ⟨rfl,rfl⟩) λr B hr=>?_
 cases r with
 |error e=>exact hr
 |ok fl=>
  cases fl with
  |ret a=>
   obtain⟨rfl,rfl⟩:=hr;have hS:(s.heap.push ({cls:= .type "set",dict:=none,data:= .set #[] 0 (.fresh 0 0 (!rh w))}:Obj)).get? s.1.1.size=ae ({cls:= .type "set",dict:=none,data:= .set #[] 0 (.fresh 0 0 (!rh w))}:Obj):=aq _ rfl;have hT:nF {s with heap:=s.heap.push ({cls:= .type "set",dict:=none,data:= .set #[] 0 (.fresh 0 0 (!rh w))}:Obj)} (.ref s.1.1.size) "set":=⟨_,hS,rfl⟩;have a3:=F.called_set.init.lookup;have a5:=F.called_set.init.bind (.ref s.1.1.size)
   repeat(any_goals(first|assumption|wp_step))
   refine dB (h7 (R:=wants (λr G=>r= .none/\∃j g,G={s with heap:=j,toks:=g}/\SI prog w (!rh w) j s.1.1.size ns/\(∀b o,b<s.1.1.size->s.heap.get? b=ae o->j.get? b=ae o)) E) F.called_set.init.plain F.entry_set_init (check_set_init_1 hT ?_)) λM G d=>?_
   .obtain⟨ol,P,S,N,T⟩:=hl;obtain⟨K,H,m,x⟩:=ol;simp only at S T;subst S;subst T;have U:(s.heap.push ({cls:= .type "set",dict:=none,data:= .set #[] 0 (.fresh 0 0 (!rh w))}:Obj)).get? l=ae {cls:= .type "list",dict:=H,data:= .seq items N,slots:=x}:=af _ P;have V:=F.sub_list_set;have a0:=F.sub_list_frozenset;have a2:(dY "list"==dY "dict")=au:=by decide
    have X:(s.heap.push ({cls:= .type "set",dict:=none,data:= .set #[] 0 (.fresh 0 0 (!rh w))}:Obj)).IsList l items:=⟨_,U,rfl,N,rfl⟩;unfold dR.«set.__init__» noKeywords Builtin.Frozenset.updateFrom;generalize D:jl=PI
    wp_walk
    subst D;refine fM X ?_;refine ac (kn ?_);have Y:l<s.1.1.size:=ax P;have I:(s.heap.push ({cls:= .type "set",dict:=none,data:= .set #[] 0 (.fresh 0 0 (!rh w))}:Obj)).objs.size=s.1.1.size+1:=bK ..;have u:A.in1.in1.in1.handled=none:=by simp[hh]
    have Z:l≠(s.heap.push ({cls:= .type "set",dict:=none,data:= .set #[] 0 (.fresh 0 0 (!rh w))}:Obj)).objs.size:=by rw[I];exact aT (cq Y)
    have C:s.1.1.size∉[(s.heap.push ({cls:= .type "set",dict:=none,data:= .set #[] 0 (.fresh 0 0 (!rh w))}:Obj)).objs.size,l]:=by
     rw[I];simp only[aL,d0,kS,not_or];exact⟨aT (cp _),eF Y⟩
    have W:=(nj (prog:=prog) (w:=w) u _ l Z items).toS;rw[L]at W;refine Vn (l:= !rh w) ns W s.1.1.size C (λi v _ z=>IntsAre.int_at hi i v (by rw[cg];exact z)) hb (ns.length-0) 0 _ rfl (bt _) ⟨⟨_,aq _ rfl,rfl,rfl⟩,(X.push _)⟩ (Yg (o:=({cls:= .type "set",dict:=none,data:= .set #[] 0 (.fresh 0 0 (!rh w))}:Obj)) (af _ hS) rfl) ?_;intro s' mv y;obtain⟨j,g',d',h,k⟩:=s';have eg:g'=s.gens:=mv.gens;have ed:d'=s.drawn:=mv.drawn;have eo:k=s.os:=mv.os;subst eg;subst ed;subst eo;show aO _ _ _ _ _ _;refine ah ?_;show aO _ _ (ret dr) _ _ _;refine ah ⟨rfl,j,h,rfl,y,λb o f e=>?_⟩;refine mv.heap b o ?_ (af _ (af _ e));rw[I];simp only[aL,d0,kS,not_or];exact⟨aT f,aT (cq f)⟩
   .cases M with
    |error e=>exact d
    |ok J=>
     cases J with
     |ret r=>
      obtain⟨rfl,j,g,rfl,y,p⟩:=d
      repeat(any_goals(first|assumption|wp_step))
      refine q _ _ y p ?_;obtain⟨o,es,ep,t,ho,_⟩:=y;exact ax ho
     |_=>exact d.elim
  |_=>exact hr.elim
end
def X4:Manifest.owners.lookup (String.ofList ['r','o','t','a','r','e','t','i','_','t','e','s'].reverse)=ae Manifest.sig_set_iterator:=by kernel_rfl
def qK:Slot "set_iterator" "__next__" "set_iterator.__next__":= .of (owner:="set_iterator") (n:="__next__") (by rw[gE,d9];kernel_rfl) bg bg bg (by first|exact .inl bg|exact .inr bg) (by rw[fU];kernel_rfl)
def LV:nC table "set_iterator.__next__"=ae dR.«set_iterator.__next__»:=mi ft
def MX(a:ai):ni "set_iterator.__next__" ⟨[a],[]⟩:=by unfold ni;rw[signature?_of (id:="set_iterator.__next__") (n:=['_','_','t','x','e','n','_','_']) (o:=['r','o','t','a','r','e','t','i','_','t','e','s']) ft X4];kernel_rfl
def P9:nC table "set.__iter__"=ae dR.«frozenset.__iter__»:=entryFor_alias (id':="frozenset.__iter__") ft rfl bg ft
section
variable{s:ak}
structure qoT (h:dg) (I:ay) (f:ai) (i:Nat) (S:ay) (n ep:Nat):Prop where
 b:∃o,h.get? I=ae o/\o.cls= .type "set_iterator"/\o.data= .fields #[f, .int i 0, .ref S, .int n 0, .int ep 0]
def qoT.J{f:ai}(x:qoT s.heap I f i S n ep):s.TypeIs (.ref I) "set_iterator":=let⟨o,b,d,_⟩:=x.b;⟨o,b,d⟩
def qoT.Z{h:dg}{f:ai}(x:qoT h I f i S n ep)(k:∀o,h.get? I=ae o->h'.get? I=ae o):qoT h' I f i S n ep:=let⟨o,b,r⟩:=x.b;⟨o,k o b,r⟩
def rJ(h:dg)(S:ay)(b:Array (Int×ai))(ep:Nat)(t:iC):Prop:=∃o,h.get? S=ae o/\o.ExactSet/\o.data= .set b ep t/\t.fits b.size=aw
def rJ.J{h:dg}(x:rJ h S es ep t)(k:∀o,h.get? S=ae o->h'.get? S=ae o):rJ h' S es ep t:=let⟨o,b,r⟩:=x;⟨o,k o b,r⟩
def Yd{h:Source}{Q:Nat->ak->Prop}(b:n≠0)(q:∀i d,i<n->Q i {s with drawn:=d}):aO M A (choose h n) Q E s:=λa p e=>by
 show Sem.wp M a (.choose h n .pure) _ _ p s;rw[Sem.wp_choose];exact⟨b,q _ _ (lL _ (Nat.pos_of_ne_zero b))⟩
theorem Gn:∀ (l:List α) (i:Nat) (a:i<l.length),(l[i]::l.eraseIdx i).Perm l
 |x::l,0,_=> .refl _
 |x::l,i+1,a=>by
  have b:i<l.length:=by simpa using a
  have d:=Gn l i b;show List.Perm (l[i]::x::l.eraseIdx i) (x::l);exact(List.Perm.swap _ _ _).trans (m5 x d)
theorem Ju:∀ (n:Nat) (b:List α) (s:ak) (Q:List α->ak->Prop),b.length=n->(∀y d,y.Perm b->Q y {s with drawn:=d})->aO M A (nV n b) Q E s
 |0,b,s,Q,j,q=>by
  have e:b=[]:=bE j;subst e;unfold nV;exact ah (q [] s.drawn .nil)
 |n+1,[],s,Q,j,q=>by cases j
 |n+1,x::b,s,Q,j,q=>by
  unfold nV;refine ac (Yd b' λi d a=>?_);rw[al a]
  dsimp only
  refine ac (Ju n _ _ _ (by rw[ix a];simp only[aJ]at j⊢;lia) λy z B=>ah (q _ z ?_));exact(m5 _ B).trans (Gn _ _ a)
set_option tactic.hygienic true in
theorem Mi(next:Nat->Nat):∀ (n k:Nat) (l:List α) (out:Array α),l.length=n->(lU next n k l out).toList.Perm (out.toList++l)
 |0,k,l,out,b=>by
  have e:l=[]:=bE b;subst e;unfold lU;simp
 |n+1,k,l,out,b=>by
  unfold lU;have a:next k%l.length<l.length:=lL _ oZ;rw[al a]
  dsimp only
  refine(Mi next n (k+1) _ _ (by rw[ix a];lia)).trans ?_;rw[gW,fQ];exact List.Perm.append_left _ (Gn _ _ a)
set_option tactic.hygienic true in
def SM(next:Nat->Nat)(xs:Array α):(kR next xs).toList.Perm xs.toList:=by
 have:=Mi next xs.size 0 xs.toList #[] b';simpa[kR]using this
def Cy(t:iC)(i:Nat):Nat:=if i=0 then 0 else t.place.getD (i-1) 0+1
def RF(r:qC t.place)(h:i<=t.place.size):cy t.place (Cy t i)=i:=by
 unfold Cy
 cases i with
 |zero=>exact R1 r
 |succ j=>
  rw[aP oZ];have e:t.place[j]? =ae (t.place.getD j 0):=by simp[kf,show j<t.place.size by lia]
  exact R3 r e
def S9(b:t.fits n=aw):t.place.size=n:=by
 simp only[SetTable.fits,aW,bP]at b;exact b.1
set_option tactic.hygienic true in
def Jq{Q:Option (ai×Nat)->ak->Prop}(y:rh w=au)(B:t.plain=aw\/es.size<=1)(G:t.led=aw)(r:qC t.place)(H:rJ s.heap S es ep t)(k:i<=es.size)
 (q:Q ((es[i]?).map λe=>(e.2,Cy t (i+1))) s):aO (aV prog w) A (kB S (Cy t i) i ep) Q E s:=by
 obtain⟨a,d,I,j,b⟩:=H;have J:=S9 b;unfold kB;refine ac (eS d j b ?_)
 dsimp only
 unfold ng;refine ac (ac (dX (ah ?_)));rw[aP (by show¬ (rh w=aw);rw[y];decide)]
 split
 .rename_i z
  have x:(!t.plain&&decide (es.size>1))=aw:=z;rcases B with h|h
  .rw[h]at x;cases x
  .simp at x;lia
 .refine ac ?_;show aO _ _ (if(!t.led&& !es.isEmpty)=aw then _ else pure ()) _ _ _;rw[aP (by rw[G];simp)];refine ah ?_;rw[RF r oZ]
  by_cases h:i<es.size
  .rw[bj h,bj (show i<t.place.size by lia)]at*
   refine ah ?_;have e:Cy t (i+1)=t.place[i]'(by lia)+1:=by unfold Cy;simp[kf,show i<t.place.size by lia]
   rw[e]at q;exact q
  .rw[dW oZ]at*
   exact ah q
def Kk{k:Nat}{Q:Option (ai×Nat)->ak->Prop}(x:rh w=aw)(y:rJ s.heap S es ep t)
 (q:Q (((kR (w.params.setOrder S ep) es)[i]?).map λe=>(e.2,k)) s):aO (aV prog w) A (kB S k i ep) Q E s:=by
 obtain⟨a,b,z,d,j⟩:=y;unfold kB setWalk;refine ac (eS b d j ?_)
 dsimp only
 unfold ng;refine ac (ac (dX (ah ?_)));rw[aU (by show rh w=aw;exact x),aP b'];refine ac (ac (eS b d j ?_))
 dsimp only
 refine ac (ac (dX (ah ?_)));rw[aU (by show rh w=aw;exact x)];exact ac (dX (ah (ah q)))
inductive Way (w:dh) (S:ay) (h:dg) (es:Array (Int×ai)) (ep:Nat) (t:iC):(Nat->ai)->List ai->Prop
 |a (hb:rh w=au) (hp:t.plain=aw\/es.size<=1) (hl:t.led=aw) (r:qC t.place):Way w S h es ep t (λi=>c7 (Cy t i:Nat)) (es.toList.map (·.2))
 |c (hb:rh w=aw):Way w S h es ep t (λ_=>c7 (0:Nat)) ((kR (w.params.setOrder S ep) es).toList.map (·.2))
 |b (T:ay) (ps:gk) (o:Obj) (hT:h.get? T=ae o) (hd:∃n,o.data= .seq (ps.map fun(i:Nat)=>c7 i).toArray n) (hp:ps.Perm (aH es.size)):Way w S h es ep t (λ_=> .ref T) (ps.map λi=>(es.getD i (0, .none)).2)
def Way.J{h:dg}(x:Way w S h es ep t f ys):ys.Perm (es.toList.map (·.2)):=by
 cases x with
 |a=>exact .refl _
 |c=>exact(SM _ _).map _
 |b T c o e g b=>
  refine(b.map _).trans (List.Perm.of_eq ?_);refine gU λi=>?_;have d:es.toList[i]? =es[i]? :=by simp
  rw[ao,ao,d]
  by_cases a:i<es.size
  .rw[bb a,bj a];simp[kf,a]
  .rw[dW oZ,b8 (by simp;lia)];rfl
def Se{y:ai}(x:Way w S s.heap es ep t f ys)(N:rJ s.heap S es ep t)(it:qoT s.heap I (f i) i S es.size ep)(b:ys[i]? =ae y)(hf:t.fits es.size=aw)
 (q:∀R,qoT R I (f (i+1)) (i+1) S es.size ep->bC I s.heap R->Q (ae y) {s with heap:=R}):aO (aV prog w) A (fA (.ref I)) Q E s:=by
 obtain⟨o,L,Z,a⟩:=id it.b;obtain⟨p,d,M,z,B⟩:=N;unfold fA;refine ac (d5 (cz (name:=fF "__next__") it.J qK (cC qK it.J LV ?_ (MX _))));unfold dR.«set_iterator.__next__»;refine ac (ah ?_);refine ac (wpAny_fieldsOf L a ?_)
 dsimp only
 refine ac (ii d z B ?_);rw[aP b'];have g:∀ (k:Nat),f (i+1)=c7 k->aO (aV prog w) A.in1 (do nA (aj I) 0 (c7 k);nA (aj I) 1 (c7 (i+1));ret y)
  (λm U=>∃v,m=Fin.done (Flow.ret v)/\aO (aV prog w) A (pure (ae v)) Q E U) (λe U=>aO (aV prog w) A (do let c<-iS e (dY "StopIteration");if c=aw then pure none else throw e) Q E U) s:=by
  intro k hk;refine ac (cQ L a b' ?_);have G:(ie (·.setIfInBounds 0 (c7 k)) o).data= .fields #[c7 k, .int i 0, .ref S, .int es.size 0, .int ep 0]:=by rw[bY a];simp
  have P:=bB (ie (·.setIfInBounds 0 (c7 k))) L (cZ G);refine ac (cQ P G b' (ah ⟨y,rfl,ah (q _ ⟨_,bB _ P (cZ (bY G _)),?_,?_⟩ ((cA ..).trans (cA ..)))⟩))
  .rw[fP,fP];exact Z
  .rw[bY G,hk];simp[c7]
 cases x with
 |a X Y C r=>
  have l:i<es.size:=by
   rcases l4 i es.size with h|h
   .exact h
   .rw[b8 (by simpa using h)]at b;cases b
  show aO _ _ (kB S (Cy t i:Int).toNat (i:Int).toNat (ep:Int).toNat>>=_) _ _ _;refine ac (Jq X Y C r ⟨p,d,M,z,B⟩ (bZ l) ?_);rw[ao,cg,bj l]at b;rw[bj l];injection b with b
  subst b;exact g _ rfl
 |c X=>
  show aO _ _ (kB S 0 i ep>>=_) _ _ _;refine ac (Kk X ⟨p,d,M,z,B⟩ ?_);rw[ao,cg]at b
  cases H:(kR (w.params.setOrder S ep) es)[i]? with
  |none=>rw[H]at b;cases b
  |some e=>
   rw[H]at b;injection b with b
   subst b;exact g _ rfl
 |b T n oT D J Y=>
  obtain⟨nT,J⟩:=J;show aO _ _ (mH (.ref T)>>=_) _ _ _;refine ac (dz D J ?_);rw[ao]at b
  cases H:n[i]? with
  |none=>rw[H]at b;cases b
  |some j=>
   rw[H]at b;injection b with b
   have u:j<es.size:=by
    have:j∈aH es.size:=Y.mem_iff.mp (cE H);simpa using this
   have V:((n.map fun(i:Nat)=>c7 i).toArray)[(i:Int).toNat]? =ae (.int (j:Int) 0):=by
    simp[H,c7]
   dsimp only
   rw[V]
   dsimp only
   refine ac ?_;unfold setNextDrawn;refine ac (eS d z B ?_)
   dsimp only
   rw[aP b'];have O:es[(j:Int).toNat]? =ae es[j]:=by rw[fb];exact bj u
   rw[O];refine ah (ac (cQ L a b' (ah ⟨_,rfl,ah ?_⟩)));have K:es[j].2=y:=by rw[<-b];simp[kf,u]
   rw[<-K]at q;exact q _ ⟨_,bB _ L (cZ (bY a _)),(fP ..).trans Z,by rw[bY a];simp[c7]⟩ (cA ..)
def Ik{P:α->ak->Prop}(i:A.handled=none){h:dg}(k0:∀b o,b≠I->h.get? b=ae o->s.heap.get? b=ae o)(q:∀d,(∀b o,b≠I->h.get? b=ae o->d.get? b=ae o)->Q none {s with heap:=d}):
 aO (aV prog w) A.in1 (do let x<-nQ (dY "StopIteration") [];raiseNew x:Sem α) P (λe j=>aO (aV prog w) A (do let c<-iS e (dY "StopIteration");if c=aw then pure none else throw e) Q E j) s:=by
 refine ac ?_;simp only[nQ,newTuple];refine ac (bX ?_ (show(0:Nat)<=sizeLine from bt _));refine ac (m:=fV _ _) (fg (a:=dr) (by simp only[fV];rfl) (bX ?_ (by size_fits)));refine wpAny_raiseNew_none (show A.in1.handled=none from i) ?_;refine ac (fZ (b:=aw) (T:="StopIteration") ⟨_,aq _ rfl,rfl⟩ kt ?_);exact ah (q _ λb o y e=>af _ (af _ (k0 b o y e)))
def Sg(M:A.handled=none)(x:Way w S s.heap es ep t f ys)(X:rJ s.heap S es ep t)(it:qoT s.heap I (f es.size) es.size S es.size ep)
 (q:∀U,(∀b o,b≠I->s.heap.get? b=ae o->U.get? b=ae o)->Q none {s with heap:=U}):aO (aV prog w) A (fA (.ref I)) Q E s:=by
 obtain⟨o,G,p,a⟩:=id it.b;obtain⟨h,j,H,y,z⟩:=X;have J:=x.J.length_eq;unfold fA;refine ac (d5 (cz (name:=fF "__next__") it.J qK (cC qK it.J LV ?_ (MX _))));unfold dR.«set_iterator.__next__»;refine ac (ah ?_);refine ac (wpAny_fieldsOf G a ?_)
 dsimp only
 refine ac (ii j y z ?_);rw[aP b'];have c:∀ (g:Obj->Obj) (b:ay) (o:Obj),b≠I->s.heap.get? b=ae o->(s.heap.update I g).get? b=ae o:=λg b o d e=>(bO _ _ (cV d)).trans e
 cases x with
 |a d P Y r=>
  show aO _ _ (kB S (Cy t es.size) es.size ep>>=_) _ _ _;refine ac (Jq d P Y r ⟨h,j,H,y,z⟩ (am _) ?_);rw[dW (am _)];refine ac (cQ G a b' ?_);exact Ik M (c _) q
 |c d=>
  show aO _ _ (kB S 0 es.size ep>>=_) _ _ _;refine ac (Kk d ⟨h,j,H,y,z⟩ ?_);rw[dW (by simp at J;lia)];refine ac (cQ G a b' ?_);exact Ik M (c _) q
 |b T k m Z B P=>
  obtain⟨n,B⟩:=B;show aO _ _ (mH (.ref T)>>=_) _ _ _;refine ac (dz Z B ?_);have l:((k.map fun(i:Nat)=>c7 i).toArray)[(es.size:Int).toNat]? =none:=by
   have:=P.length_eq;simp at this;simp;lia
  dsimp only
  rw[l]
  dsimp only
  refine ac (cQ G a b' ?_);have L:(ie (·.setIfInBounds 0 (c7 0)) o).data= .fields #[c7 0, .int es.size 0, .ref S, .int es.size 0, .int ep 0]:=by rw[bY a];simp
  have R:=bB (ie (·.setIfInBounds 0 (c7 0))) G (cZ L);refine ac (cQ R L b' ?_);exact Ik M (λb o d e=>(bO _ _ (cV d)).trans (c _ b o d e)) q
def Way.Z{h:dg}(x:Way w S h es ep t f ys)(k:∀T,f 0= .ref T->∀o,h.get? T=ae o->h'.get? T=ae o):Way w S h' es ep t f ys:=by
 cases x with
 |a b d e r=>exact .a b d e r
 |c b=>exact .c b
 |b T a o i c d=>exact .b T a o (k T rfl o i) c d
set_option tactic.hygienic true in
def Uo{Q:ai->ak->Prop}(U:rJ s.heap S es ep t)(h:TbT (!rh w) t)(X:es.size<=sizeLine)
 (q:∀ (I:ay) (G:dg) d f Y,Way w S G es ep t f Y->qoT G I (f 0) 0 S es.size ep->s.1.1.size<=I->(∀T,f 0= .ref T->T≠I/\s.1.1.size<=T)->(∀b o,s.heap.get? b=ae o->G.get? b=ae o)->Q (.ref I) {s with heap:=G,drawn:=d}):
 aO (aV prog w) A (jl (.ref S)) Q E s:=by
 obtain⟨a,j,J,x,y⟩:=id U;have P:s.TypeIs (.ref S) "set":=⟨a,j,J.1⟩;refine lB P F.slot_set_iter (cC F.slot_set_iter P P9 ?_ (F.args_set_iter_1 _));unfold dR.«frozenset.__iter__» Builtin.Frozenset.slot0 slotArgs;simp only[List.isEmpty_nil,lv,eJ,↓reduceIte,bind_assoc,dP,bne_self_eq_false];unfold Builtin.Frozenset.addrOf Builtin.Frozenset.sizeOf setDrawn ng;refine ac (ah ?_)
 try dsimp only
 refine ac (ah ?_);refine ac (ac (ii j x y (ah ?_)));refine ac (ac (eS j x y ?_))
 dsimp only
 refine ac (ac (dX (ah (ah ?_))))
 split
 .refine ac (Ju es.size (aH es.size) s _ b' λps d H=>?_);have L:ps.length=es.size:=by rw[H.length_eq];simp
  refine ac (wpAny_newTuple ?_ (by rw[az,L];exact X));have z:=af ({cls:= .type "tuple",data:= .seq (ps.map fun(i:Nat)=>c7 i).toArray}:Obj) j;refine ac (lA z x y ?_);refine ac (bX (ah ⟨_,rfl,"set_iterator",_,⟨_,aq _ rfl,rfl⟩,qK.lookup,?_⟩));refine q _ _ d (λ_=> .ref s.1.1.size) _ (.b s.1.1.size ps _ (af _ (aq _ rfl)) ⟨_,rfl⟩ H) ⟨_,aq _ rfl,rfl,rfl⟩ ?_ ?_ λb o e=>af _ (af _ e)
  .show s.1.1.size<=(s.heap.push _).objs.size;rw[bK];exact f' _
  .intro T e;injection e with e
   subst e;refine⟨?_,am _⟩;show s.1.1.size≠(s.heap.push _).objs.size;rw[bK];exact aT (cp _)
 .rename_i c
  refine ac (ah ?_);refine ac (lA j x y ?_);refine ac (bX (ah ⟨_,rfl,"set_iterator",_,⟨_,aq _ rfl,rfl⟩,qK.lookup,?_⟩));have R:∀ (k:Nat) T,c7 (k:Int)=aj T->T≠s.1.1.size/\s.1.1.size<=T:=λk T e=>by cases e
  cases M:rh w with
  |true=>exact q _ _ s.drawn _ _ (.c M) ⟨_,aq _ rfl,rfl,rfl⟩ (am _) (R 0) λb o e=>af _ e
  |false=>
   have B:¬ ((!rh w&&(!t.plain&&decide (es.size>1)))=aw):=c;rw[M]at B h;exact q _ _ s.drawn _ _ (.a M (by cases H:t.plain<;>simp[H]at B⊢;lia) h.2 h.1) ⟨_,aq _ rfl,rfl,rfl⟩ (am _) (R 0) λb o e=>af _ e
theorem Rq{L:ay}(N:A.handled=none)(B:L≠I)(U:L≠S)(X:S≠I)(u:∀T,f 0= .ref T->T≠I/\T≠L)(hz:es.size<=sizeLine)(h:ai):
 ∀ (k i:Nat) (s:ak) (d:Array ai) (c:Nat),es.size-i=k->i<=es.size->Way w S s.heap es ep t f ys->rJ s.heap S es ep t->qoT s.heap I (f i) i S es.size ep->s.heap.get? L=ae {cls:= .type "list",dict:=none,data:= .seq d c,slots:= #[]}->d.toList=ys.take i->
 (∀G j Y,(∀b o,b≠I->b≠L->s.heap.get? b=ae o->G.get? b=ae o)->G.get? L=ae {cls:= .type "list",dict:=none,data:= .seq j Y,slots:= #[]}->j.toList=ys->R (.ok (.ret h)) {s with heap:=G})->
 dM (aV prog w) A (.builtin "list.extend.loop" ⟨[.ref L, .ref I,h],[]⟩) R s:=by
 intro k
 induction k with
 |zero=>
  intro i s d c hk K x H m Z P q;have e:i=es.size:=by lia
  subst e;have y:ys.length=es.size:=by rw[x.J.length_eq];simp
  refine cD F.entry_extend_loop ?_;rw[bU F.plain_extend_loop _];show aO _ A.in1 (fA (.ref I)>>=_) _ _ s;refine ac (Sg (show A.in1.handled=none from N) x H m λG a=>ah (q G d c (λb o Q _ e=>a b o Q e) (a L _ B Z) ?_));rw[P,<-y,dZ]
 |succ k E=>
  intro i s d c hk K x H m Z P q;have D:i<es.size:=by lia
  have y:ys.length=es.size:=by rw[x.J.length_eq];simp
  have r:ys[i]? =ae (ys[i]'(by lia)):=al _;refine cD F.entry_extend_loop ?_;rw[bU F.plain_extend_loop _];show aO _ A.in1 (fA (.ref I)>>=_) _ _ s;refine ac (Se x H m r (let⟨_,_,_,_,z⟩:=H;z) λh1 l C=>?_);have a:∀b o,b≠I->s.heap.get? b=ae o->h1.get? b=ae o:=λb o O e=>by rw[C.2 b O];exact e
  have J:=a L _ B Z;have M:d.size=i:=by rw[<-cB,P,cU];lia
  show aO _ A.in1 (nN L (·.push (ys[i]'(by lia)))>>=_) _ _ _;refine ac (jE J rfl (ah ⟨fh F.plain_extend_loop _,E (i+1) _ (d.push (ys[i]'(by lia))) _ oZ D (x.Z λT e o eo=>?_) (H.J λo e=>?_) (l.Z λo e=>?_) (bB _ J rfl) ?_ λV j Y g p n=>?_⟩) (by rw[M];lia) (by show(d.push _).size<=sizeLine+1;rw[mZ,M];lia))
  .exact(bO _ _ (cV (u T e).2)).trans (a T o (u T e).1 eo)
  .exact(bO _ _ U).trans (a S o X e)
  .exact(bO _ _ B).trans e
  .rw[gW,P,cL,r];rfl
  .exact q V j Y (λb o Q v e=>g b o Q v ((bO _ _ (cV v)).trans (a b o Q e))) p n
end
section
variable{s:ak}
open Builtin.List in
def Uq{Q:Bool->ak->Prop}(e:s.TypeIs (.ref S) "set")(q:Q au s):aO (aV prog w) A (listLengthHint (.ref S)) Q E s:=by
 unfold listLengthHint;refine ac (gB e F.slot_set_len.lookup ?_);generalize d:("set.__len__":String)=i
 wp_delta
 rw[show splitId i=ae ("set","__len__")from by subst d;decide +kernel];subst d;refine ac (fZ (b:=aw) e sub_set_self ?_);rw[aP oY];show aO _ _ (if _=aw then _ else _) _ _ _;rw[aU bg];refine ac (wpAny_typeOf e ?_);exact ah q
def RD{Q:List ai->ak->Prop}(O:A.handled=none)(u:rJ s.heap S es ep t)(N:TbT (!rh w) t)(v:es.size<sizeLine)
 (q:∀X d P,P.Perm (es.toList.map (·.2))->(∀b o,s.heap.get? b=ae o->X.get? b=ae o)->s.1.1.size<=X.objs.size->Q P {s with heap:=X,drawn:=d}):aO (aV prog w) A (oj (.ref S)) Q E s:=by
 have Y:S<s.1.1.size:=let⟨o,K,_⟩:=u;ax K;unfold oj;refine ac (kn (cD F.entry_proto_collect ?_));rw[bU F.plain_proto_collect _];show aO _ A.in1 (mK []>>=λl=>nX (.builtin "list.__iadd__" ⟨[l, .ref S],[]⟩)) _ _ s;refine ac (bX (ah ⟨fh F.plain_list_iadd _,cD F.entry_list_iadd ?_⟩));rw[bU F.plain_list_iadd _];generalize z:({cls:= .type "list",data:= .seq ([]:List ai).toArray}:Obj)=c;have gL:(s.heap.push c).get? s.1.1.size=ae c:=aq _ (by subst z;rfl);have i:rJ (s.heap.push c) S es ep t:=u.J λo e=>af _ e;obtain⟨n,B,G,a0,V⟩:=id i;have hT:nF {s with heap:=s.heap.push c} (.ref S) "set":=⟨n,B,G.1⟩;show aO _ A.in1 (fK (.ref s.1.1.size) (.ref S) (.ref s.1.1.size)) _ _ _;unfold fK;refine ac (wpAny_typeOf hT ?_);have R:i6 (.ref s.1.1.size) (.ref S)=au:=by
  have:¬s.1.1.size=S:=eF Y;simp[i6,this]
 rw[aP (by rw[R];decide)];refine ac (Uo i N (bZ v) λI R d f P x D U j g=>?_);have H:=g _ _ gL;refine ac (cJ (Uq ⟨n,g _ _ B,G.1⟩ ?_));rw[aU bg];refine ac (fk ?_);refine ac ?_;show aO _ A.in1 (nN s.1.1.size (·.push .none)>>=λ_=>nN s.1.1.size (·.pop)) _ _ _;subst z;refine ac (jE H rfl ?_);have J:=bB (gh (·.push dr)) H rfl;refine jE J rfl ?_;have Z:=bB (gh (·.pop)) J rfl;have h:(s.heap.push ({cls:= .type "list",data:= .seq ([]:List ai).toArray}:Obj)).objs.size=s.1.1.size+1:=bK ..;rw[h]at U j;have a:∀b o,b≠s.1.1.size->R.get? b=ae o->((R.update s.1.1.size (gh (·.push dr))).update s.1.1.size (gh (·.pop))).get? b=ae o:=
  λb o y e=>(bO _ _ (cV y)).trans ((bO _ _ (cV y)).trans e)
 have L:s.1.1.size≠I:=aT U;have r:S≠s.1.1.size:=aT Y;have k:S≠I:=aT (eG Y U);have p:∀T,f 0= .ref T->T≠I/\T≠s.1.1.size:=λT e=>⟨(j T e).1,eF (j T e).2⟩;refine ah ⟨fh F.plain_extend_loop _,Rq (show A.handled=none from O) L (cV r) k p (bZ v) _ es.size 0 _ _ _ rfl (bt _) (x.Z λT e o eo=>a T o (p T e).2 eo) ((i.J λo e=>g S o e).J λo e=>a S o r e) (D.Z λo e=>a I o (cV L) e) Z rfl λh2 C c' m M ha=>?_⟩;show aO _ A (load s.1.1.size>>=_) _ _ _;refine ac (lC M ?_);refine ah ?_;rw[ha];refine q h2 d P x.J (λb o e=>?_) (bZ (ax M));have y:b<s.1.1.size:=ax e;exact m b o (aT (eG y U)) (aT y) (a b o (aT y) (g b o (af _ e)))
def IntsAre.J{vs:List ai}(p:vs.Perm us):∀ {ns:hO},iI us ns->∃b,iI vs b/\b.Perm ns:=by
 induction p with
 |nil=>intro ns h;exact⟨ns,h, .refl _⟩
 |cons x _ z=>intro ns h;cases h with|cons n t h=>obtain⟨b,d,e⟩:=z h;exact⟨n::b, .cons n t d,e.cons n⟩
 |swap x y l=>intro ns h;cases h with|cons n t h=>cases h with|cons m u h=>exact⟨m::n::_, .cons m u (.cons n t h), .swap _ _ _⟩
 |trans _ _ i j=>intro ns h;obtain⟨b,d,e⟩:=j h;obtain⟨B,G,H⟩:=i d;exact⟨B,G,H.trans e⟩
end
end
section
variable{np cpos sp pos:Pos}
def Inv.drawn{O:pz}{s:ak}(I:Inv X pb O H s)(d:Drawn):Inv X pb O H {s with drawn:=d}:=⟨I.e,I.n,I.d,I.b,I.j,I.h,I.g,I.f,I.k,I.a,I.l⟩
end
section
variable{s:ak}
def tf(u:A.handled=none)(i:SI prog w (!rh w) s.heap S ms)(G:∀x∈ms,(0:Int)<=x/\x<63)
 (q:∀ (L:ay) (H:dg) d (vs:List ai) (ns:hO) (e:Nat),s.1.1.size<=L->H.get? L=ae (nP "list" vs.toArray e)->(∀b o,s.heap.get? b=ae o->H.get? b=ae o)->iI vs ns->ns.Pairwise (· < ·)->(∀k,k∈ns↔k∈ms)->ns.length<=63->Q (.ref L) {s with heap:=H,drawn:=d}):
 aO (aV prog w) A (call (.builtin "sorted") [.ref S]) Q E s:=by
 obtain⟨o,Z,ep,t,p,I,D,J,B,y,l,v,M⟩:=i;have P:Z.size<=63:=by
  have z:=List.Nodup.length_le_of_subset B (l₂:=(aH 63).map λn:Nat=>(n:Int)) λx g=>by
   obtain⟨z,h2⟩:=G x ((y x).mp g);exact bJ.mpr ⟨x.toNat,by simp;lia,by lia⟩
  simpa using z
 refine iJ kind_sorted plain_sorted entry_sorted (args_sorted1 _) ?_;unfold dR.«sorted»;refine ac (m:=checkCount "sorted" 1 1 _) (ah ?_);refine ac (RD (show A.in1.handled=none from u) ⟨o,p,I,D,v⟩ M (by rw[bV];lia) λz d R hp a T=>?_);obtain⟨ks,K,U⟩:=IntsAre.J hp (Mz J);have X:R.length<64:=by rw[hp.length_eq];simp;lia
 refine ac (wpAny_newList ?_ (by rw[bV];lia));have Y:(z.push (nP "list" R.toArray 0)).get? z.objs.size=ae (nP "list" R.toArray 0):=aq _ rfl;refine ac (cJ (cC slot_list_sort ⟨_,Y,rfl⟩ mL (list_sort_tree Y K X λout ns V O N=>⟨_,rfl,?_⟩) (args_list_sort _)));refine ah ⟨_,rfl,?_⟩;obtain⟨e,C⟩:=sortedHeap_at (out:=out) Y;have j:ns.Perm (Z.toList.map keyOf):=O.trans U;refine q z.objs.size _ d out.toList ns e T (by rw[kl];exact C) (λb o f=>?_) V ?_ (λk=>(j.mem_iff).trans (y k)) (by rw[j.length_eq];simp;exact P)
 .have c:=ax (a b o f);rw[sortedHeap_old (aT c) (by rw[size_push'];exact cq c)];exact af _ (a b o f)
 .have r:ns.Nodup:=j.nodup_iff.mpr B;exact lQ (λh=>by lia) (List.Pairwise.and N r)
end
section
variable{D:ay}{elt iter1 target tg1:dH}{ifs1:List dH}{i0 i1:Nat}{wi wi1:TI}{tt1:TT}{Q:VK}{acc:ai}{Qo:ai->ak->Prop}
section
variable{np cpos sp pos:Pos}
def Ot(K:aB)(h:TE):TE:=λa H Q=>h a H λv d=>∃ (l:ay) (b:hO),v= .b l/\pq K d l (b.map V.a)/\b.length<=4000/\(∀x∈b,(0:Int)<=x/\x<63)/\
 ∀ (p:ay) (ns:hO),d p=none->ns.Pairwise (· < ·)->(∀k:Int,k∈ns↔k∈b)->ns.length<=63->Q (.b p) (upd d p (.a (ns.map V.a)))
def UU(K:aB)(x:X.h "set"=none)(y:X.h "sorted"=none){k:Nat}(hr:pM k X.A)(S:X.calm=aw)(O:PE X e te)(hK:X.K=K<|>n')(B:Gl X "set"<|>n')(G:Gl X "sorted"<|>n')
 (T:aI [e] X.a=[(au,eval e X.a)]<|>n') (J:aI [.Call (.Name "set" np) [e] [] cpos] X.a=[(au,eval (.Call (.Name "set" np) [e] [] cpos) X.a)]<|>n'):
 PE X (.Call (.Name "sorted" sp) [.Call (.Name "set" np) [e] [] cpos] [] pos) (Ot K te):=by
 subst hK;intro c s a H Q I h;refine cF (CL I G y nr ?_);refine hG ?_ J rfl;rw[J];show aO _ _ (og [(au,eval (.Call (.Name "set" np) [e] [] cpos) X.a)]) _ _ _;refine dc ?_;refine cF (CL I B x PyProof.Rows.boot_set ?_);refine bN ?_ T rfl;rw[T];show aO _ _ (og [(au,eval e X.a)]) _ _ _;refine dc (zz (O c s a H _ I h) λu U v H1 j p r=>fc ?_);obtain⟨l,ms,rfl,C,hz,i,q⟩:=r
 cases p
 obtain⟨w,n,ht,_⟩:=j.J C;have N:=KB n;refine vu (j.e.k S) ht.isList N (by unfold ij;lia) λY M hS t E=>fc ?_;have Z:Inv X c a H1 {U with heap:=Y,toks:=M}:=j.ap λb o z=>t b o (ax z) z;refine tf (s:={U with heap:=Y,toks:=M}) (j.e.k S) hS i λL J d m f ep g gL P hI hp D R=>?_;refine⟨.b L,_,(Z.mp (t':=M) (o:= .a (f.map V.a)) P g ⟨?_,m,ep,Gq hI,gL⟩).drawn d,rfl,q L f (Z.a.J g) hp D R⟩;rw[az,bV];lia
def VJ{O:pz}(h:te O H λv d=>∃ (l:ay) (b:hO),v= .b l/\pq K d l (b.map V.a)/\b.length<=4000/\(∀x∈b,(0:Int)<=x/\x<63)/\∀ (p:ay) (ns:hO),d p=none->ns.Pairwise (· < ·)->(∀k:Int,k∈ns↔k∈b)->ns.length<=63->Q (.b p) (upd d p (.a (ns.map V.a)))):Ot K te O H Q:=h
end
section
variable{s:ak}
theorem RK(i h iter d b:dH)(ifs e:List dH)(scope:ib)(pos:Pos)(k j:ai)(env:Env):
 mz (.ListComp i [⟨h,iter,ifs,0⟩,⟨d,b,e,0⟩] scope pos) 0 k j env=(do
  hU iter.pos
  match<-fA k with
  |none=>pure (.done .next)
  |some v=>
   c8 h k v
   iB h env v
   let mut a:=aw
   for c in ifs do
    if a then a<-kT c env (eval c env)
   if a then
    let x<-eval b env
    hU b.pos
    let x<-cK b env x
    let _<-runOwn (.compStart (.ListComp i [⟨h,iter,ifs,0⟩,⟨d,b,e,0⟩] scope pos) 1 (<-gQ [x] (jl x)) j env) env
   nX (.compLoop (.ListComp i [⟨h,iter,ifs,0⟩,⟨d,b,e,0⟩] scope pos) 0 k j env)):=by rfl
theorem RL(i h iter b d:dH)(ifs e:List dH)(scope:ib)(pos:Pos)(k j:ai)(env:Env):
 mz (.ListComp i [⟨h,iter,ifs,0⟩,⟨b,d,e,0⟩] scope pos) 1 k j env=(do
  hU d.pos
  match<-fA k with
  |none=>pure (.done .next)
  |some v=>
   c8 b k v
   iB b env v
   let mut a:=aw
   for c in e do
    if a then a<-kT c env (eval c env)
   if a then
    (do let _<-call (.builtin "list.append") [j,<-eval i env])
   nX (.compLoop (.ListComp i [⟨h,iter,ifs,0⟩,⟨b,d,e,0⟩] scope pos) 1 k j env)):=by rfl
theorem Qm{iter k:dH}{pos:Pos}{u:ai}(L:∀x,cK iter1 env x=pure x)(I:Nat->ak->Prop)
 (l:∀n s,I n s->aO (aV prog w) A (fA u) (λr d=>match r with
   |none=>R (.ok .next) d
   |some v=>aO (aV prog w) A (c8 target u v) (λ_ i=>aO (aV prog w) A (iB target env v) (λ_ j=>
     aO (aV prog w) A (forIn ifs aw λc r=>if r=aw then do let a<-kT c env (eval c env);pure (bG a)else pure (bG r)) (λa e=>
      if a=aw then aO (aV prog w) A (eval iter1 env) (λx y=>aO (aV prog w) A (jl x) (λb B=>
       dM (aV prog w) A (.compStart (.ListComp elt [⟨target,iter,ifs,0⟩,⟨k,iter1,ifs1,0⟩] scope pos) 1 b acc env) (λr G=>r= .ok .next/\∃m,m<n/\I m G) B) (λ_ _=>False) y) (λ_ _=>False) e
      else∃m,m<n/\I m e) (λ_ _=>False) j) (λ_ _=>False) i) (λ_ _=>False) d) (λ_ _=>False) s)
 (n:Nat) (h:I n s):
 dM (aV prog w) A (.compLoop (.ListComp elt [⟨target,iter,ifs,0⟩,⟨k,iter1,ifs1,0⟩] scope pos) 0 u acc env) R s:=by
 refine lV rfl I (λn s M=>?_) n h;show aO _ A ((mz (.ListComp elt [⟨target,iter,ifs,0⟩,⟨k,iter1,ifs1,0⟩] scope pos) 0 u acc env).onRaise (λx=>do mJ x env;jH x)) _ _ s;refine mD ?_;rw[RK];refine ac (dF (ac (bi (l n s M) (λr d H=>?_) λ_ _ z=>z.elim)))
 cases r with
 |none=>exact ah H
 |some v=>
  refine ac (bi H (λ_ i f=>ac (bi f (λ_ j P=>ac (bi P (λa e J=>?_) λ_ _ z=>z.elim)) λ_ _ z=>z.elim)) λ_ _ z=>z.elim)
  cases a with
  |false=>exact ah ⟨rfl,J⟩
  |true=>
   refine ac (bi J (λx y Q=>ac (dF ?_)) λ_ _ z=>z.elim);rw[L x];refine ac (ah (ac (cJ (bi Q (λb B S=>ac (wpAny_runOwn (dB S λr G g=>?_))) λ_ _ z=>z.elim))));obtain⟨T,q⟩:=g;subst T;exact ah ⟨rfl,q⟩
theorem Q8{iter k:dH}{pos:Pos}{q:ai}(I:Nat->ak->Prop)
 (l:∀n s,I n s->aO (aV prog w) A (fA q) (λr b=>match r with
   |none=>R (.ok .next) b
   |some v=>aO (aV prog w) A (c8 k q v) (λ_ e=>aO (aV prog w) A (iB k env v) (λ_ i=>
     aO (aV prog w) A (forIn ifs1 aw λc r=>if r=aw then do let a<-kT c env (eval c env);pure (bG a)else pure (bG r)) (λa d=>
      if a=aw then aO (aV prog w) A (eval elt env) (λx j=>aO (aV prog w) A (call (.builtin "list.append") [acc,x]) (λ_ y=>∃m,m<n/\I m y) (λ_ _=>False) j) (λ_ _=>False) d
      else∃m,m<n/\I m d) (λ_ _=>False) i) (λ_ _=>False) e) (λ_ _=>False) b) (λ_ _=>False) s)
 (n:Nat) (h:I n s):
 dM (aV prog w) A (.compLoop (.ListComp elt [⟨target,iter,ifs,0⟩,⟨k,iter1,ifs1,0⟩] scope pos) 1 q acc env) R s:=by
 refine lV rfl I (λn s H=>?_) n h;show aO _ A ((mz (.ListComp elt [⟨target,iter,ifs,0⟩,⟨k,iter1,ifs1,0⟩] scope pos) 1 q acc env).onRaise (λx=>do mJ x env;jH x)) _ _ s;refine mD ?_;rw[RL];refine ac (dF (ac (bi (l n s H) (λr b B=>?_) λ_ _ z=>z.elim)))
 cases r with
 |none=>exact ah B
 |some v=>
  refine ac (bi B (λ_ e f=>ac (bi f (λ_ i J=>ac (bi J (λa d G=>?_) λ_ _ z=>z.elim)) λ_ _ z=>z.elim)) λ_ _ z=>z.elim)
  cases a with
  |false=>exact ah ⟨rfl,G⟩
  |true=>
   exact ac (ac (bi G (λx j L=>ac (bi L (λ_ y M=>ah (ah ⟨rfl,M⟩)) λ_ _ z=>z.elim)) λ_ _ z=>z.elim))
def Q9{iter k:dH}{pos:Pos}{l:ai}
 (m:dM (aV prog w) A (.compLoop (.ListComp elt [⟨target,iter,ifs,0⟩,⟨k,iter1,ifs1,0⟩] scope pos) 1 l acc env) R s)
 (h:aO (aV prog w) A (jl l) (λb d=>dM (aV prog w) A (.compLoop (.ListComp elt [⟨target,iter,ifs,0⟩,⟨k,iter1,ifs1,0⟩] scope pos) 1 b acc env) R d) (notedBy (aV prog w) A env λx d=>R (.error x) d) s):
 dM (aV prog w) A (.compStart (.ListComp elt [⟨target,iter,ifs,0⟩,⟨k,iter1,ifs1,0⟩] scope pos) 1 l acc env) R s:=by
 refine jK ?_;show aO _ _ ((compStart (.ListComp elt [⟨target,iter,ifs,0⟩,⟨k,iter1,ifs1,0⟩] scope pos) 1 l acc env).onRaise (λx=>do mJ x env;hU theWindowsPlace)) _ _ s;refine wpAny_notedAt ?_;unfold compStart;show aO _ _ (ask>>=_) _ _ s;refine ac (dX (wpAny_ite ?_))
 split
 .first
   |exact ac (ah (ah ⟨rfl,m⟩))
   |exact ah ⟨rfl,m⟩
 .first
   |exact ac (fk (ac (dF (ac (bi h (λb d e=>ah ⟨rfl,e⟩) λ_ _ x=>x)))))
   |(refine ac (fk ?_);show aO _ _ (hU iter1.pos>>=_) _ _ s;exact ac (dF (ac (bi h (λb d e=>ah ⟨rfl,e⟩) λ_ _ x=>x))))
end
def Ei(D:ay)(j:TI)(B:Nat)(y:TT)(M:TE)(O:pz)(H:Hp)(N:Hp->Prop):Prop:=j O H λJ P=>∃W:Nat->Nat->Hp->Prop,(∃m,W 0 m P)/\∀i m d,W i m d->
 (J.a i d/\N d)\/(J.d i d/\∀x G,J.c i d x G->y (O.set B (ae x)) G λb I=>
   if b=aw then M (O.set B (ae x)) I λv L=>∃z,L D=ae (.a z)/\z.length<sizeLine/\∃e,e<m/\W (i+1) e (upd L D (.a (z++[v])))
   else∃e,e<m/\W (i+1) e I)
def IL(own:hE)(sel:gk)(L:TI)(z:Nat)(M:TT)(j:TI)(P:Nat)(y:TT)(R:TE):TE:=λa H Q=>L a H λJ B=>∀D,B D=none->
 ∃W:Nat->Nat->Hp->Prop,(∃m,W 0 m (upd B D (.a [])))/\∀i m d,W i m d->
  (J.a i d/\Q (.b D) d)\/(J.d i d/\∀x G,J.c i d x G->M ((AZ own sel a).set z (ae x)) G λb I=>
    if b=aw then Ei D j P y R ((AZ own sel a).set z (ae x)) I λS=>∃e,e<m/\W (i+1) e S
    else∃e,e<m/\W (i+1) e I)
section
variable{Y:Cx}
def Rp{iter:dH}{pos:Pos}(P:Y.xe=λ_ _=>False)(hc:Y.calm=aw)(a3:PI Y tg1 iter1 wi1)(a4:PG Y tg1 (BK i1))(a2:vB Y ifs1 tt1)(he:PE Y elt te)
 {pb:List (ay×Obj)} {s:ak} {O:pz} {H:Hp} {N:Hp->Prop} (I0:Inv Y pb O H s) (a0:O[i1]? =ae none) (h:Ei D wi1 i1 tt1 te O H N) {R:nZ->ak->Prop} (a7:∀H' Q,Inv Y pb O H' Q->N H'->R (.ok .next) Q):
 aO (aV Y.d Y.w) Y.A (eval iter1 Y.a) (λx p=>aO (aV Y.d Y.w) Y.A (jl x) (λV K=>dM (aV Y.d Y.w) Y.A (.compStart (.ListComp elt [⟨tg,iter,ifs,0⟩,⟨tg1,iter1,ifs1,0⟩] scope pos) 1 V (.ref D) Y.a) R K) (λ_ _=>False) p) (λ_ _=>False) s:=by
 have hi:=a3 pb s O H _ I0 h;rw[P]at hi;refine pB hi λv s1 h1=>pB h1 λb3 s2 h2=>?_;obtain⟨it,l,tn,J,H2,e,I2,T,S,f2,W,⟨m0,w0⟩,f⟩:=h2;subst e;have y:∀ {H':Hp},(∀b∈l,H' b=none)->∀b∈l,BZ Y pb H' b:=λhn b G=>⟨hn b G,(f2 b G).2⟩;have a:dM (aV Y.d Y.w) Y.A (.compLoop (.ListComp elt [⟨tg,iter,ifs,0⟩,⟨tg1,iter1,ifs1,0⟩] scope pos) 1 (.ref it) (.ref D) Y.a) R s2:=by
  refine Q8 (λn Q=>∃i H',Inv Y pb O H' Q/\tn i Q.heap/\(∀b∈l,H' b=none)/\W i n H') ?_ m0 ⟨0,H2,I2,S,λb G=>(f2 b G).1,w0⟩;rintro n p ⟨i,H4,I4,U,Z,w4⟩;rcases f i n H4 w4 with⟨g,q⟩|⟨go,k⟩
  .refine pB (T.d Y rfl rfl rfl hc i pb p O H4 (λ_ _=>False) I4 (y Z) U g) λr K z=>?_;obtain⟨hr,I5⟩:=z;subst hr;exact a7 _ _ I5 q
  .refine pB (T.c Y rfl rfl rfl hc i pb p O H4 (λ_ _=>False) I4 (y Z) U go) λr K z=>?_;obtain⟨u,hr,h5⟩:=z;subst hr;refine pB h5 λ_ s6 z=>?_;obtain⟨x,H6,I6,r6,y6,I,a6⟩:=z;have a9:=I6.pinned (y a6) (T.e _ _ I);have c:∀ {L:Hp} {M:ak},Inv Y (pb++DX l s6.heap) (O.set i1 (ae x)) L M->(∃B,B<n/\W (i+1) B L)->∃B,B<n/\∃i H',Inv Y pb O H' M/\tn i M.heap/\(∀b∈l,H' b=none)/\W i B H':=fun{L M} m E=>by
    obtain⟨B,hm,E⟩:=E;refine⟨B,hm,i+1,L,m.qt.weak b' λj v e=>?_,T.a _ _ _ I λb G o e=>(m.k (b,o) (aX _ (aX _ (C8 G e)))).1,λb G=>?_,E⟩
    .by_cases hj:i1=j
     .subst hj;rw[a0]at e;cases e
     .rw[cm hj];exact e
    .obtain⟨o,e,d⟩:=T.e _ _ I b G;exact(m.k (b,o) (aX _ (aX _ (C8 G e)))).2.1
   have ga:=a4 _ s6 _ H6 x u _ a9 r6 (show BK i1 x O H6 (λC H'=>C=O.set i1 (ae x)/\H'=H6)from⟨rfl,rfl⟩);rw[P]at ga;refine pB ga λ_ M z=>?_;obtain⟨b1,L,m,e7,a8⟩:=z;subst e7;subst a8;have ta:=a2 _ M _ _ _ m (k x L y6);rw[P]at ta;refine pB ta λb s8 z=>?_;obtain⟨H8,I8,t⟩:=z
   cases b with
   |false=>
    rw[aP av]at t⊢;exact c I8 t
   |true=>
    rw[aU rfl]at t⊢;have ea:=he _ s8 _ H8 _ I8 t;rw[P]at ea;refine pB ea λv s9 z=>?_;obtain⟨x9,H9,I9,r9,ys,a5,a1,q9⟩:=z;have aa:=B7 (X:=Y) _ s9 _ H9 (.b D) [x9] (.ref D) [v] (λ_ H'=>∃B,B<n/\W (i+1) B H') I9 rfl (.cons r9 .nil) ⟨D,ys,x9,rfl,rfl,a5,a1,q9⟩;rw[P]at aa;exact pB aa λ_ b2 ⟨_,b4,b0,_,σ⟩=>c b0 σ
 exact Q9 a (T.f Y.A 0 _ _ _ S a)
end
def Rx{iter:dH}{pos:Pos}{use:Option (ai->Sem Unit)}
 (S:ua X.a.scope X.N own sel scope) (hc:X.calm=aw) (hi:PI X tg iter wi)
 (c6:i0≠i1/\i0<own.length/\i1<own.length) (hg:∀g C G L f,PG (Br X own sel scope g C G L f) tg (BK i0))
 (ht:∀g C G L f,vB (Br X own sel scope g C G L f) ifs tt) (a5:∀g C G L f,PI (Br X own sel scope g C G L f) tg1 iter1 wi1) (a6:∀g C G L f,PG (Br X own sel scope g C G L f) tg1 (BK i1)) (a2:∀g C G L f,vB (Br X own sel scope g C G L f) ifs1 tt1) (he:∀g C G L f,PE (Br X own sel scope g C G L f) elt te)
 (hs:∀x,cK iter X.a x=pure x) (a3:∀g C G L f x,cK iter1 (Br X own sel scope g C G L f).a x=pure x) {pb:List (ay×Obj)} {s:ak} {O:pz} {H:Hp} {Q:VK} {ps:Pos} (I0:Inv X pb O H s) (h:IL own sel wi i0 tt wi1 i1 tt1 te O H Q)
 (b7:∀ (D C:ay) (H':Hp) (s':ak) (m:Str->Option ai),Inv X pb O H' s'->s'.heap.Ns C m->yP X pb H' C->Q (.b D) H'->kW (aV X.d X.w) X.A X.xe use Qo (.ref D) C (.ok .next) s'):
 aO (aV X.d X.w) X.A (jb (.ListComp elt [⟨tg,iter,ifs,0⟩,⟨tg1,iter1,ifs1,0⟩] scope pos) scope X.a ps (mK []) au (eval iter X.a) use) Qo X.xe s:=by
 obtain⟨g,b5,U,a0⟩:=NH (scope:=scope) (env:=X.a) λy hy e=>I0.e.r y.1 (S.d y hy e);refine iN (use:=use) rfl hs b5 S.a S.c (pB (hi pb s O H _ I0 h) λv s1 h1=>pB h1 λd9 G h2=>?_);obtain⟨it,f,tn,J,L,e,I,T,b1,σ,h3⟩:=h2;subst e;clear h h1 I0;refine bX (wpAny_newFunctionEnv S.b (by intro y hy;simp at hy) (λh1 Z P=>?_) S.a)
 dsimp only at Z P⊢
 generalize hP:G.heap.push {cls:= .type "list",dict:=none,data:= .seq ([]:List ai).toArray}=P1 at Z P⊢;generalize hD:G.1.1.size=D at Z P⊢;generalize hC:P1.objs.size=C at Z P⊢;have d5:C=D+1:=by rw[<-hC,<-hP,bK,hD]
 have a4:D<C:=by rw[d5];exact cp D
 have c5:D≠C:=aT a4;have t:∀b:ay,b<D->b≠C:=λb B=>aT (eG B a4);have c2:∀b:ay,b<D->b≠D:=λb B=>aT B;have b2:G.1.1.size<=D:=gi hD;have c3:G.1.1.size<=C:=bw b2 (bZ a4);have oH:∀a,D<=a->L a=none:=λa ha=>I.a.J (by rw[hD];exact ha);have c4:L D=none:=oH D (am _);have d1:L C=none:=oH C (bZ a4);have l:∀b o,G.heap.get? b=ae o->b<D:=λb o e=>by rw[<-hD];exact ax e
 have M:∀b o,G.heap.get? b=ae o->h1.get? b=ae o:=λb o e=>
  P.extBut b o (t b (l b o e)) (af _ (hP▸af _ e))
 have gD:h1.get? D=ae {cls:= .type "list",dict:=none,data:= .seq ([]:List ai).toArray}:=by
  refine P.extBut _ _ c5 (af _ ?_);rw[<-hP,<-hD];exact aq _ rfl
 obtain⟨W,⟨m0,w0⟩,b8⟩:=h3 D c4;have b6:∀b∈f,b<D:=λb B=>by obtain⟨o,e,_⟩:=T.e _ _ b1 b B;exact l b o e
 generalize E:Br X own sel scope g C G L f=Y;have hg:=hg g C G L f;have ht:=ht g C G L f;have he:=he g C G L f;have a5:=a5 g C G L f;have a6:=a6 g C G L f;have a2:=a2 g C G L f;have a3:=a3 g C G L f;rw[E]at hg ht he a5 a6 a2 a3;have c9:Y.Z:=by
  subst E;refine⟨I.e.f,S.a,I.e.g,I.e.l,?_,λx y c a b=>I.e.q x y c (U _ _ a) (U _ _ b),λx hx=>?_,(λ_ _ z=>nomatch z),λz=>I.e.k z,I.e.e, .inl rfl,λb B=>⟨?_,λx c e=>(σ b B).2.2.2.2.1 x c (U _ _ e)⟩,I.bs,
   bw I.e.h I.sz,λb o e B=>?_,λb B z=>?_,I.stack,I.qH⟩
  .exact c3
  .have d0:(oi scope X.a).names.lookup x=ae .cell\/(oi scope X.a).names.lookup x=ae .free:=hx;have hf:scope.names.lookup x=ae .free:=by
    rcases d0 with z|z
    .rcases EJ z with q|q
     .exact absurd rfl (S.b _ (bM q))
     .exact q
    .rcases EJ z with q|q<;>exact q
   exact a0 _ (bM hf) rfl
  .exact t b (b6 b B)
  .rcases(σ b B).2.2.2.1 with z|z
   .exact I.e.i b o e z
   .exact absurd (aQ (ax e) (bw I.e.h z)) (ck _)
  .rcases aL.mp (I.qO b z)with q|q
   .exact(σ b B).2.1 q
   .exact(σ b B).2.2.1 q
 have eo:pE X.d X.w (upd L D (.a [])) h1 D (.a []):=⟨by decide,[],_, .nil,gD⟩;have I1:Inv Y [] (AZ own sel O) (upd L D (.a [])) {G with heap:=h1,toks:=G.toks+([]:List (Str×ai)).length}:=by
  subst E;refine⟨c9,rfl,I.d,Un.Z M b2 c4,⟨_,Z,λi x v e1 e2 e3=>?_⟩,λx c e=>?_,?_,λx c e=>?_,λp hp=>absurd (show p∈([]:List (ay×Obj))from hp) b',I.a.ap M b2 eo,?_⟩
  .obtain⟨k,j,ei,ej,es⟩:=Lq e2;subst ei;have a7:(own++sel.map λj=>X.N.getD j cR)[own.length+k]? =ae x:=e1;rw[cN oZ,ao,show own.length+k-own.length=k by lia,ej]at a7;simp only[jQ,fO]at a7;obtain⟨hj,b4,b3⟩:=S.e j (cE ej);have hN:X.N[j]? =ae x:=by rw[<-a7,ag,al hj];rfl
   rw[a7]at b3 b4;obtain⟨m,_,hl⟩:=I.j;obtain⟨u,r,lk⟩:=hl j x v hN es (.inr b3);refine⟨u,r, .inr ⟨Gd I.e.a b4,?_⟩⟩;rcases lk with⟨z1,_⟩|⟨_,c,d4,d3⟩
   .have c8:X.a.scope.names.lookup x=ae .local:=z1;rcases b3 with q|q<;>(rw[c8]at q;cases q)
   .obtain⟨c',q⟩:=a0 _ (bM b4) rfl;have q2:=U _ _ q;rw[d4]at q2
    cases q2
    exact⟨c,q,d3.keeps M⟩
  .obtain⟨u,z⟩:=I.h x c (U _ _ e);exact⟨u,z.keeps M⟩
  .show upd L D (.a []) C=none;rw[AG (cV c5)];exact d1
  .have q:=I.f x c (U _ _ e);obtain⟨u,o,z,_⟩:=I.h x c (U _ _ e);rw[AG (c2 c (l c o z))];exact q
  .show(AZ own sel O).length=(own++sel.map λj=>X.N.getD j cR).length;rw[Lr];simp
 have b7:∀ (a1:pz) (H':Hp) (s':ak),Inv Y [] a1 H' s'->Q (.b D) H'->kW (aV X.d X.w) X.A X.xe use Qo (.ref D) C (.ok .next) s':=by
  intro a1 H' s' I' q;subst E;obtain⟨m,hn,_⟩:=I'.j;have J':Inv X pb O H' s':=I.uy I'.n I'.b I'.a I'.d λb B=>⟨(σ b B).2.2.2.1,(σ b B).2.1,(σ b B).2.2.2.2.1,(σ b B).2.2.2.2.2⟩;refine b7 D C H' s' m J' hn ⟨I'.g,cV (t _ (by rw[<-hD];exact I.lt)),bw I.sz c3,λx c e=>?_,λp hp=>?_⟩ q
  .obtain⟨u,o,z,_⟩:=I.h x c e;exact t c (l c o z)
  .exact t p.1 (l p.1 p.2 (I.k p hp).1)
 have V:∀ {H':Hp},(∀b∈f,H' b=none)->∀b∈f,BZ Y [] H' b:=fun{H'} hn b B=>by
  subst E;refine⟨hn b B,t b (b6 b B),λz=>?_, .inl B,λx c e=>(σ b B).2.2.2.2.1 x c (U _ _ e),λp hp=>absurd (show p∈([]:List (ay×Obj))from hp) b'⟩;rcases aL.mp (I.qO b z)with q|q
  .exact(σ b B).2.1 q
  .exact(σ b B).2.2.1 q
 have a8:∀s3:ak,s3={G with heap:=h1,toks:=G.toks+([]:List (Str×ai)).length}->
  dM (aV X.d X.w) X.A (.compLoop (.ListComp elt [⟨tg,iter,ifs,0⟩,⟨tg1,iter1,ifs1,0⟩] scope pos) 0 (.ref it) (.ref D) (kX scope g C X.a)) (kW (aV X.d X.w) X.A X.xe use Qo (.ref D) C) s3:=by
  rintro s3 rfl;have eP:Y.d=X.d:=by subst E;rfl
  have eW:Y.w=X.w:=by subst E;rfl
  have eA:Y.A=X.A:=by subst E;rfl
  have eK:Y.K=X.K:=by subst E;rfl
  have eE:Y.a=kX scope g C X.a:=by subst E;rfl
  have eX:Y.xe=λ_ _=>False:=by subst E;rfl
  have eC:Y.calm=aw:=by subst E;exact hc
  refine Qm (by rw[<-eE];exact a3) (λn s'=>∃i H',Inv Y [] (AZ own sel O) H' s'/\tn i s'.heap/\(∀b∈f,H' b=none)/\W i n H') ?_ m0
   ⟨0,_,I1,T.a _ _ _ b1 λb _ o e=>M b o e,λb B=>by rw[AG (c2 b (b6 b B))];exact(σ b B).1,w0⟩
  rintro n s4 ⟨i,H4,I4,c1,c7,w4⟩;rcases b8 i n H4 w4 with⟨b9,q⟩|⟨go,c0⟩
  .have dn:=T.d Y eP eW eK eC i [] s4 _ H4 (λ_ _=>False) I4 (V c7) c1 b9;rw[eA]at dn;refine pB dn λr s5 z_=>?_;obtain⟨hr,I5⟩:=z_;subst hr;exact b7 _ _ _ I5 q
  .have im:=T.c Y eP eW eK eC i [] s4 _ H4 (λ_ _=>False) I4 (V c7) c1 go;rw[eA]at im;refine pB im λr s5 z_=>?_;obtain⟨u,hr,h5⟩:=z_;subst hr;refine pB h5 λ_ s6 z_=>?_;obtain⟨x,H6,I6,r6,y6,b0,d6⟩:=z_;have d8:=I6.pinned (V d6) (T.e _ _ b0);have a9:∀ {σ7:pz} {H7:Hp} {s7:ak} {k:Nat},Inv Y ([]++DX f s6.heap) σ7 H7 s7->σ7.length=(AZ own sel O).length->(∀j,own.length<=j->σ7[j]? =(AZ own sel O)[j]?)->(∃m',m'<n/\W (i+1) m' H7)->
    ∃m',m'<n/\∃i H',Inv Y [] (AZ own sel O) H' s7/\tn i s7.heap/\(∀b∈f,H' b=none)/\W i m' H':=fun{σ7 H7 s7 k} I7 l7 k7 w7=>by
    obtain⟨m',hm,w7⟩:=w7;refine⟨m',hm,i+1,H7,I7.qt.weak l7.symm λj v e=>?_,T.a _ _ _ b0 λb B o e=>(I7.k (b,o) (aX _ (aX _ (C8 B e)))).1,λb B=>?_,w7⟩
    .by_cases hj:j<own.length
     .rw[Fd hj]at e;cases e
     .rw[k7 j (jp hj)];exact e
    .obtain⟨o,e,d⟩:=T.e _ _ b0 b B;exact(I7.k (b,o) (aX _ (aX _ (C8 B e)))).2.1
   have ga:=hg _ s6 _ H6 x u _ d8 r6 (show BK i0 x (AZ own sel O) H6 (λa1 H'=>a1=(AZ own sel O).set i0 (ae x)/\H'=H6)from⟨rfl,rfl⟩);rw[eP,eW,eA,eE,eX]at ga;refine pB ga λ_ s7 z_=>?_;obtain⟨σ7,H7,I7,e7,d7⟩:=z_;subst e7;subst d7;have l7:((AZ own sel O).set i0 (ae x)).length=(AZ own sel O).length:=by simp
   have k7:∀j,own.length<=j->((AZ own sel O).set i0 (ae x))[j]? =(AZ own sel O)[j]? :=λj hj=>cm oZ;have ta:=ht _ s7 _ _ _ I7 (c0 x H7 y6);rw[eP,eW,eA,eE,eX]at ta;refine pB ta λb s8 z_=>?_;obtain⟨H8,I8,q8⟩:=z_
   cases b with
   |false=>
    rw[aP av]at q8⊢;exact a9 (k:=0) I8 l7 k7 q8
   |true=>
    rw[aU rfl]at q8⊢;have d2:((AZ own sel O).set i0 (ae x))[i1]? =ae none:=by
     rw[cm c6.1];exact Fd c6.2.2
    have ic:=Rp (Y:=Y) (tg:=tg) (iter:=iter) (ifs:=ifs) (scope:=scope) (pos:=pos) eX eC a5 a6 a2 he I8 d2 q8 (R:=λr s6=>r= .ok .next/\∃m',m'<n/\∃i H',Inv Y [] (AZ own sel O) H' s6/\tn i s6.heap/\(∀b∈f,H' b=none)/\W i m' H') λH9 s9 I9 q9=>⟨rfl,a9 (k:=0) I9 l7 k7 q9⟩;rw[eP,eW,eA,eE]at ic;exact ic
 exact jx (a8 _ rfl) (T.f X.A 0 _ _ _ (T.a _ _ _ b1 λb _ o e=>M b o e) (a8 _ rfl))
set_option tactic.hygienic true in
def Qk{spos:Pos}{iter:dH}{pos:Pos}
 (Q:X.N.Nodup) (j:X.N[i]? =ae x) (R:Loc X.a.scope x)
 (S:ua X.a.scope X.N own sel scope) (T:X.calm=aw) (σ:PI X tg iter wi) (y:i0≠i1/\i0<own.length/\i1<own.length) (r:∀g C b d c,PG (Br X own sel scope g C b d c) tg (BK i0))
 (u:∀g C b d c,vB (Br X own sel scope g C b d c) ifs tt) (z:∀g C b d c,PI (Br X own sel scope g C b d c) tg1 iter1 wi1) (B:∀g C b d c,PG (Br X own sel scope g C b d c) tg1 (BK i1)) (G:∀g C b d c,vB (Br X own sel scope g C b d c) ifs1 tt1) (U:∀g C b d c,PE (Br X own sel scope g C b d c) elt te)
 (Y:(∀x,cK iter X.a x=pure x)<|>q0) (J:∀g C b d c x,cK iter1 (Br X own sel scope g C b d c).a x=pure x:=by intro _ _ _ _ _ _;rfl)
 (L:gZ (.ListComp elt [⟨tg,iter,ifs,0⟩,⟨tg1,iter1,ifs1,0⟩] scope pos) (ae (.Name x pos')) spos.line X.a=pure true<|>n')
 (Z:X.i x=aw\/X.a.scope.names.lookup x=ae .local<|>qz):
 PS X (.Assign [.Name x pos'] (.ListComp elt [⟨tg,iter,ifs,0⟩,⟨tg1,iter1,ifs1,0⟩] scope pos) spos) (CN (IL own sel wi i0 tt wi1 i1 tt1 te) (BK i)):=by
 intro l s O H K I h;rw[jJ _ _ _ _ L];refine ac (dF (ac ?_));show aO _ X.A (do let _<-jb (.ListComp elt [⟨tg,iter,ifs,0⟩,⟨tg1,iter1,ifs1,0⟩] scope pos) scope X.a _ (mK []) au (eval iter X.a) (ae (iB (.Name x pos') X.a))) _ _ s;refine ac (bi (Rx (use:=ae (iB (.Name x pos') X.a)) (Qo:=λ_ M=>SP X l K .next M) S T σ y r u z B G U Y J I h λD C E M m w p f q=>?_) (λ_ M o=>ah (ah o)) λ_ _ e=>e);show aO _ X.A (iB (.Name x pos') X.a (.ref D)) _ _ _;refine iO (Gw (v:=V.b D) w Q j R rfl (λb t F=>?_) Z);obtain⟨a,k,ha⟩:=F;have P:C≠a:=by
  rcases ha with rfl|ha
  .exact f.a
  .exact cV (f.b x a ha)
 exact⟨m,p.sameBut k P,λh' n=>⟨_,E,t.yG f n,q⟩⟩
def Zr(K:aB):gr->Hp->VK->Prop:=λb H Q=>∃ (a:ay) (ns:hO),b=[.b a]/\pq K H a (ns.map V.a)/\Q (.c (ns.any λn=>n !=0)) H
def Te(K:aB)(M:X.calm=aw)(P:X.K=K<|>n'):pH X (.builtin "any") (Zr K):=by
 subst P;rintro N s m H p C Q I r ⟨a,ns,e,g,q⟩;subst e;obtain⟨u,rfl,R⟩:=vals1 r
 cases R
 obtain⟨j,rv,G,hz⟩:=I.J g;obtain⟨O,J,_⟩:=id G.isList;have S:a<s.1.1.size:=ax J;have d:=rv.J;rw[az]at d;refine call_any_walk (fM G.isList ⟨s.1.1.size,_,_,_,_,_,λi=>ns.getD i 0 !=0,rfl,nj (A:=X.A.in1) (I.e.k M) s.1.1.size a (aT S) j.toArray,⟨⟨_,aq _ rfl,rfl,rfl⟩,G.isList.at λo e=>af _ e⟩,?_,λh' D T=>?_⟩)
 .intro i v E Q' E' U y;have B:j[i]? =ae v:=by simpa using U
  have c:i<ns.length:=by rw[d];exact(aR.mp B).1
  obtain⟨w,L,Y⟩:=rv.ld (i:=i) (x:=V.a ns[i]) (by simp[c]);rw[B]at L
  cases L
  obtain⟨t,rfl⟩:=Y;have Z:ns.getD i 0=ns[i]:=by simp[ag,c]
  simp only[Z]at y;exact truthy_int y
 .have e:(aH j.toArray.size).any (λi=>ns.getD i 0 !=0)=ns.any λn=>n !=0:=by
   rw[aA,<-d,fe];simp only[List.any_eq_true,bR]
   constructor
   .rintro⟨i,c,h⟩;exact⟨ns[i],d2 c,by simpa[ag,c]using h⟩
   .rintro⟨n,k,h⟩;obtain⟨i,c,rfl⟩:=eO.mp k;exact⟨i,c,by simpa[ag,c]using h⟩
  rw[e];refine⟨.c _,H,I.ap λb o z=>T b o ?_ (af _ z),rfl,q⟩;have:=ax z;intro f;have l:b=s.1.1.size:=by simpa using f
  rw[l]at this;exact absurd this (ck _)
def BF{h:Type}:List h->List h
 |[]=>[]
 |[x]=>[x]
 |x::_::r=>x::BF r
set_option tactic.hygienic true in
theorem KH:∀ (n:Nat) (a pre:List α),a.length<=n->((aH ((a.length+1)/2)).map λk=>pre.length+2*k).filterMap (λj=>(pre++a)[j]?)=BF a
 |_,[],pre,_=>by simp[BF]
 |_,[x],pre,_=>by simp[BF]
 |0,x::y::r,pre,h=>by simp at h
 |n+1,x::y::r,pre,h=>by
  have b:=KH n r (pre++[x,y]) (by simp at h;lia);have e:((x::y::r).length+1)/2=(r.length+1)/2+1:=by simp;lia
  rw[e,gO,aY,dQ];have d:(pre++x::y::r)[pre.length+2*0]? =ae x:=by simp
  rw[d];simp only[dC,BF];congr 1;rw[<-b];have i:((λk=>pre.length+2*k)∘Nat.succ)=λk=>(pre++[x,y]).length+2*k:=by
   funext k;simp;lia
  rw[i,fQ]
  rfl
def VC(n:Nat):j7 0 (n:Int) 2=(aH ((n+1)/2)).map λk=>0+2*k:=by
 unfold j7;have e:(if(2:Int)>0 then(if(0:Int)<(n:Int)then((n:Int)-0+2-1)/2 else 0)else(if(0:Int)>(n:Int)then(0-(n:Int)-2-1)/(-2)else 0)).toNat=(n+1)/2:=by
  rw[aU oY]
  split<;>lia
 simp only[e];refine dO λk hk=>?_;lia
theorem Jw:∀ (n:Nat) {b:gr} {d:List ai},b.length<=n->Vals b d->Vals (BF b) (BF d)
 |_,_,_,_, .nil=> .nil
 |_,_,_,_, .cons r .nil=> .cons r .nil
 |0,_,_,h, .cons r (.cons e a)=>by simp at h
 |n+1,_,_,h, .cons r (.cons e a)=> .cons r (Jw n (by simp at h;lia) a)
def Om(K:aB)(e h:TE):TE:=λa H Q=>e a H λx i=>h a i λy b=>y= .a 2/\∃p d,x= .b p/\pq K b p d/\∀r,b r=none->Q (.b r) (upd b r (.a (BF d)))
theorem Kz:∀ (n:Nat) (a:List α),a.length<=n->(BF a).length<=a.length
 |_,[],_=>am _
 |_,[x],_=>am _
 |0,x::y::r,h=>by simp at h
 |n+1,x::y::r,h=>by have:=Kz n r (by simp at h;lia);simp[BF];lia
def Xy(K:aB){st:dH}{k:TE}{l pos:Pos}(L:PE X e te)(M:PE X st k)(P:X.K=K<|>n'):PE X (.Subscript e (.Slice none none (ae st) l) pos) (Om K te k):=by
 subst P;intro c s a H Q I h;refine lI (pB (L c s a H _ I h) λv R z=>?_);obtain⟨x,S,T,U,Y⟩:=z;refine wpAny_Slice ?_;rw[kU];refine ah (ah ?_);rw[evalPart_some];refine pB (M c R a S _ T Y) λu i z=>?_;obtain⟨y,Z,D,f,g⟩:=z;obtain⟨rfl,q⟩:=g;obtain⟨B,rfl⟩:=f;have G:Inv X c a Z {i with heap:=i.heap.push {cls:= .type "slice",data:= .fields #[.none, .none, .int 2 B]}}:=D.ap (t':=i.toks) λb m q=>af _ q;show aO (aV X.d X.w) X.A (i9 e (.Slice none none (ae st) l) v (.ref i.1.1.size)) (EP X c a Q) X.xe {i with heap:=i.heap.push {cls:= .type "slice",data:= .fields #[.none, .none, .int 2 B]}};obtain⟨p,j,rfl,t,q⟩:=q
 cases U
 obtain⟨d,r,ht,n⟩:=G.J t;have J:=r.J;refine tail_any (ops:=[.ref p, .ref i.1.1.size]) ht.isList.typeIs iQ.lookup ?_ dp;refine iM ht.isList (lm ..) .none .none (.int 2 B) b' ?_ (by rw[aA]<;>lia);have C:mG d.toArray none none (ae 2)=(BF d).toArray:=by
  unfold mG;have e:f9 none none (ae 2) d.toArray.size=(0,(d.length:Int),2):=by rw[aA];rfl
  rw[e];show((j7 0 (d.length:Int) 2).filterMap _).toArray=_;rw[VC];simp only[jZ];congr 1;exact KH d.length d [] (am _)
 rw[C];refine⟨.b _,_,G.mp (o:= .a (BF j)) (λb m q=>af _ q) (am _) ?_,rfl,q _ (G.a.J (am _))⟩;exact⟨bw (Kz j.length j (am _)) n,_,0,Jw j.length (am _) r,aq _ rfl⟩
section
variable{O:pz}
def Yj{k:TE}(h:te O H λx e=>k O e λy b=>y= .a 2/\∃p d,x= .b p/\pq K b p d/\∀r,b r=none->Q (.b r) (upd b r (.a (BF d)))):Om K te k O H Q:=h
def OC(J:qo)(own:hE)(sel:gk)(O:pz)(z:Nat)(L:TT)(j:TI)(M:Nat)(y:TT)(P:TE)(Q:VK)(B:Hp):Prop:=∀D,B D=none->
 ∃W:Nat->Nat->Hp->Prop,(∃m,W 0 m (upd B D (.a [])))/\∀i m d,W i m d->
  (J.a i d/\Q (.b D) d)\/(J.d i d/\∀x G,J.c i d x G->L ((AZ own sel O).set z (ae x)) G λb I=>
    if b=aw then Ei D j M y P ((AZ own sel O).set z (ae x)) I λR=>∃e,e<m/\W (i+1) e R
    else∃e,e<m/\W (i+1) e I)
def Vd(h:wi O H λJ b=>OC J own sel O i0 tt wi1 i1 tt1 te Q b):IL own sel wi i0 tt wi1 i1 tt1 te O H Q:=h
def TR(f:Nat->gr)
 (B:∀D d,H D=none->pj H d->d D=ae (.a ((aH n).flatMap f))->Q (.b D) d)
 (M:∀ (D:ay) (i:Nat) (d:Hp) (N:Hp->Prop),H D=none->i<n->pj H d->d D=ae (.a ((aH i).flatMap f))->(∀z,pj H z->z D=ae (.a ((aH i).flatMap f++f i))->N z)->
   tt ((AZ own sel O).set i0 (ae (.a (lo+i)))) d λb I=>if b=aw then Ei D wi1 i1 tt1 te ((AZ own sel O).set i0 (ae (.a (lo+i)))) I N else N I):OC (uS lo n) own sel O i0 tt wi1 i1 tt1 te Q H:=by
 intro D G;refine⟨λi m d=>m=n-i/\i<=n/\d D=ae (.a ((aH i).flatMap f))/\pj H d,⟨_,rfl,bt _,by rw[AF];rfl,AL G _⟩,?_⟩;rintro i m P ⟨rfl,a,J,L⟩
 by_cases j:i<n
 .refine .inr ⟨j,λx R y=>?_⟩;obtain⟨rfl,rfl⟩:=y;refine M D i R _ G j L J λz S T=>⟨n-(i+1),by lia,rfl,j,?_,S⟩;rw[T,cr,ir];simp
 .have e:i=n:=by lia
  subst e;exact .inl ⟨am _,B D P G L J⟩
def S0{a:ay}{ys:gr}{N:Hp->Prop}(f:V->V)(T:H a=ae (.a xs))(M:a≠D)(U:H D=ae (.a ys))(Z:ys.length+xs.length<=sizeLine)
 (X:∀ (i:Nat) (x:V) (j:Hp) (R:V->Hp->Prop),xs[i]? =ae x->pf D H j->R (f x) j->te (O.set i1 (ae x)) j R)
 (h:∀z,pf D H z->z D=ae (.a (ys++xs.map f))->N z):
 ∃W:Nat->Nat->Hp->Prop,(∃m,W 0 m H)/\∀i m d,W i m d->
  ((uA K a).a i d/\N d)\/((uA K a).d i d/\∀x J,(uA K a).c i d x J->qe (O.set i1 (ae x)) J λb S=>
    if b=aw then te (O.set i1 (ae x)) S λv z=>∃ys,z D=ae (.a ys)/\ys.length<sizeLine/\∃B,B<m/\W (i+1) B (upd z D (.a (ys++[v])))
    else∃B,B<m/\W (i+1) B S):=by
 refine⟨λi m j=>m=xs.length-i/\i<=xs.length/\j D=ae (.a (ys++(xs.take i).map f))/\pf D H j,⟨_,rfl,bt _,by rw[U];simp,pf.mp _ _⟩,?_⟩;rintro i m d ⟨rfl,c,P,L⟩;have q:pq K d a xs:=pq.J (L _ _ T M)
 by_cases G:i<xs.length
 .refine .inr ⟨⟨xs,xs[i],q,al G⟩,λx J y=>?_⟩;obtain⟨rfl,Y⟩:=y;have I:=Y _ q;refine OL ?_;rw[aU rfl];refine X i x J _ I L ⟨_,P,by simp;lia,xs.length-(i+1),by lia,rfl,G,?_,L.J pf.ap⟩;rw[AF,cL,I];simp
 .have e:i=xs.length:=by lia
  subst e;rw[dZ]at P;exact .inl ⟨⟨_,q,am _⟩,h d L P⟩
end
end
inductive se(K:aB):Type
 |mk (p:ay) (l:hO) (_:vs=[.b p]) (_:H p=ae (iL l)) (_:∀H',pj H H'->Q (.c ((BF l).any λn=>n !=0)) H')
def Q6{l:hO}{Q:VK}{E:XK}(h:H p=ae (iL l))(q:∀b,pj H b->Q (.c ((BF l).any λn=>n !=0)) b):se K ([.b p]++[]) H Q E:=⟨p,l,rfl,h,q⟩
theorem Ky{k:Type}(f:α->k):∀ (n:Nat) (l:List α),l.length<=n->BF (l.map f)=(BF l).map f
 |_,[],_=>rfl
 |_,[x],_=>rfl
 |0,x::y::r,h=>by simp at h
 |n+1,x::y::r,h=>by simp only[aY,BF];rw[Ky f n r (by simp at h;lia)]
def fB(k:Nat)(a:gk)(j:Nat)(L:List hO)(i:Nat):hO:=if((BF (pO (ones k) (a.getD i 0))).any λn=>n !=0)=aw/\0<qa (PP (a.map (pO (ones k)))) k (i+1) j then(L.getD i []).map (· +1)else []
def Lx(f:Nat->hO)(n:Nat):(aH n).flatMap (λi=>(f i).map V.a)=((aH n).flatMap f).map V.a:=by rw[List.map_flatMap]
structure wF (H H':Hp) (r:ay) (ad:Nat->ay) (L:List hO):Prop where
 d:H r=none
 e:∀i,i<L.length->H (ad i)=none
 a:H' r=ae (.a ((aH L.length).map λi=>V.b (ad i)))
 b:∀i,i<L.length->H' (ad i)=ae (iL (L.getD i []))
 c:pj H H'
def wF.Z(h:wF H H' r ad L):qV H' r L:=⟨ad,h.a,h.b⟩
def wF.J{k:Hp}(h:wF H H' r ad L)(s:pj H' k)(j:H' p=none)(l:k p=ae (iL ns)):
 wF H (upd k r (.a (((aH L.length).map λi=>V.b (ad i))++[V.b p]))) r (λi=>if i<L.length then ad i else p) (L++[ns]):=by
 have y:p≠r:=λz=>by rw[z,h.a]at j;cases j
 have B:∀i,i<L.length->ad i≠r:=λi a z=>by
  have d:=h.b i a;rw[z,h.a]at d;injection d with d
  injection d with d
  have G:=cx fj d;simp only[az,dt]at G;have x:((aH L.length).map λi=>V.b (ad i))[0]? =((L.getD i []).map V.a)[0]? :=by rw[d]
  rw[ao,ao,bb oZ,al oZ]at x;simp at x
 refine⟨h.d,λi a=>?_,?_,λi a=>?_,λb o z=>?_⟩
 .by_cases c:i<L.length
  .rw[aU c];exact h.e i c
  .rw[aP c];exact h.c.Z j
 .rw[AF,aN,hH,cr,b0];have I:((aH L.length).map λi=>V.b (if i<L.length then ad i else p))=(aH L.length).map λi=>V.b (ad i):=dO λi a=>by rw[aU (bR.mp a)]
  rw[I];simp
 .by_cases c:i<L.length
  .simp only[aU c];rw[AG (B i c),s _ _ (h.b i c),ag,ag,dA c]
  .have e:i=L.length:=by simp at a;lia
   subst e;simp only[ck,gX];rw[AG y,l,ag,cN (am _)];simp
 .rw[AG (AQ z h.d)];exact s _ _ (h.c b o z)
def wz:hO->V
 |[]=> .d
 |x::_=> .a x
section
variable{vs:List (Key×ai)}{xss:List gk}{c:gk}{ks:hE}{R:List ai->ak->Prop}{Q:VK}
def Zq(K:aB):R2:=λx y H Q=>∃d e ph,x= .b d/\y= .b e/\Rd H d (.d ph)/\Rd H e (.d [])/\Q (.c (decide (ph=[]))) H
def YA(K:aB)(G:X.A.units<iw):pZ X (bu .Eq) (Zq K):=by
 rintro o s n H x y v u Q I J L ⟨d,e,a,m,l,k,h,q⟩;subst m l
 cases J
 cases L
 obtain⟨_,b,vs,M,g⟩:=CD I.a k;obtain⟨_,i,c,P,f⟩:=CD I.a h;have j:=M.J;have B:=P.J;simp only[dP]at B;have R:c=[]:=bE B.symm;subst R;refine W.keq_eq (knd:=An X.d X.w) (r:=aw) b i g f G (λz=>?_) ⟨.c _,H,I,rfl,?_⟩
 .have S:vs=[]:=bE (by simpa using z);subst S;exact .nil
 .have T:(vs.length==([]:List (Key×ai)).length&&aw)=decide (a=[]):=by
   cases a with
   |nil=>have:vs=[]:=bE (by simpa using j.symm)
         subst this;rfl
   |cons p r=>cases vs with
    |nil=>simp at j
    |cons _ _=>simp
  rw[T];exact q
def Qb{s:ak}(h:(d==bL)=au)(S:A.handled=none)
 (J:s.heap.DictAt (An prog w) d vs ep) (T:vs.length<=sizeLine)
 (q:∀B G M,s.1.1.size<=B.objs.size->(∀b o,s.heap.get? b=ae o->B.get? b=ae o)->M.length=vs.length->(∀ (j:Nat) (v:ai),M[j]? =ae v->∃k x,vs[j]? =ae (k,x)/\(An prog w).is k v=aw)->R M {s with heap:=B,toks:=G}):
 aO (aV prog w) A (oj (.ref d)) R E s:=by
 have a:=W.kdl_dict (knd:=An prog w) (kvs:=vs) (ep:=ep) h;have L:=(a.there _ J).1;unfold oj;refine ac (kn (cD F.entry_proto_collect ?_));rw[bU F.plain_proto_collect _];show aO _ A.in1 (mK []>>=λl=>nX (.builtin "list.__iadd__" ⟨[l, .ref d],[]⟩)) _ _ s;refine ac (bX (ah ⟨fh F.plain_list_iadd _,cD F.entry_list_iadd ?_⟩));rw[bU F.plain_list_iadd _];have U:(s.heap.push {cls:= .type "list",data:= .seq ([]:List ai).toArray}).get? s.1.1.size=ae {cls:= .type "list",data:= .seq #[]}:=aq _ rfl;show aO _ A.in1 (fK (.ref s.1.1.size) (.ref d) (.ref s.1.1.size)) _ _ _
 let m:nZ->ak->Prop:=λr P=>∃B G z c,r= .ok (.ret (.ref s.1.1.size))/\P={s with heap:=B,toks:=G}/\(∀b o,s.heap.get? b=ae o->B.get? b=ae o)/\
  B.get? s.1.1.size=ae {cls:= .type "list",dict:=none,data:= .seq z c,slots:= #[]}/\ItemsOf (λi v=>∃k x,vs[i]? =ae (k,x)/\(An prog w).is k v=aw) z vs.length
 refine bi (W.kdl_extend (A:=A) (s:={s with heap:=s.heap.push {cls:= .type "list",data:= .seq ([]:List ai).toArray}}) (R:=m) a S (a.keep _ _ J λb _ o e=>af _ e)
  s.1.1.size (eF L) (eF L) (.ref s.1.1.size) 0 U
  (λB G z c hk H I=>⟨B,G,z,c,rfl,rfl,λb o e=>hk b o (aT (ax e)) (af _ e),H,I⟩) T) (λg P x=>?_) λe P x=>?_
 .cases g with
  |done f=>
   obtain⟨B,G,z,c,e,rfl,hk,H,I⟩:=x
   cases e
   refine ac (lC H (ah (q B G z.toList (bZ (ax H)) hk (by rw[cB];exact I.1) λj v Q=>I.2 j v (by rw[<-cg];exact Q))))
  |again Z=>
   refine⟨x.1,dB x.2 λr n y=>?_⟩;obtain⟨B,G,z,c,rfl,rfl,hk,H,I⟩:=y;refine ac (lC H (ah (q B G z.toList (bZ (ax H)) hk (by rw[cB];exact I.1) λj v Q=>I.2 j v (by rw[<-cg];exact Q))))
 .obtain⟨_,_,_,_,Y,_⟩:=x
  cases Y
theorem KN{b:List ai}{a:hE}(h:ox b a):Vals (a.map λx=>tx x.cps.toList) b:=by
 induction h with
 |nil=>exact .nil
 |cons x t h i=>exact .cons ⟨t,rfl⟩ i
def StrsAre.J:∀ {vs:List ai},vs.length=ks.length->(∀ (j:Nat) (v:ai),vs[j]? =ae v->∃ (k:Str) (t:Tok),ks[j]? =ae k/\v= .str k t)->ox vs ks:=by
 induction ks with
 |nil=>
  intro vs h _;cases vs
  .exact .nil
  .cases h
 |cons k ks d=>
  intro vs h b;cases vs with
  |nil=>cases h
  |cons v vs=>
   obtain⟨y,t,e,i⟩:=b 0 v rfl
   cases e
   subst i;exact .cons k t (d (by simpa using h) λj v x=>b (j+1) v x)
def Xn(K:aB):gr->Hp->VK->Prop:=λb H Q=>∃ (d:ay) (ph:List (Key×V)) (ss:hE),b=[.b d]/\Rd H d (.d ph)/\ph.map (·.1)=ss.map Sum.inr/\ss.length<64/\
 ∀ (p:ay) (a:hE),H p=none->a.Perm ss->mF a=aw->Q (.b p) (upd H p (.a (a.map λx=>tx x.cps.toList)))
def FQ(K:aB)(hc:X.calm=aw)(hK:X.K=K<|>n'):pH X (.builtin "sorted") (Xn K):=by
 subst hK;rintro pb s O H xs us Q I rv ⟨d,ph,ss,e,hD,a,a0,q⟩;subst e;obtain⟨u,rfl,D⟩:=rv.Z
 cases D
 obtain⟨z,hd,vs,rel,dd⟩:=CD I.a hD;obtain⟨ep,P⟩:=dd.dictAt;have R:ph.length=ss.length:=by have:=cx fj a;simpa using this
 have S:vs.length=ss.length:=by rw[<-rel.J];exact R
 have i:=rel.ap;refine iJ kind_sorted plain_sorted entry_sorted (args_sorted1 _) ?_;unfold dR.«sorted»;refine ac (m:=checkCount "sorted" 1 1 _) (ah ?_);refine ac (Qb (A:=X.A.in1) hd (I.e.k hc) P (by rw[bV];lia) λB C y G hk J L=>?_);have T:y.length=ss.length:=by rw[J,S]
 have U:ox y ss:=StrsAre.J T λj v N=>by
  obtain⟨k,x,E,Y⟩:=L j v N;have r:(vs.map (·.1))[j]? =ae k:=by rw[ao,E];rfl
  rw[<-i,a,ao]at r;obtain⟨p,h2,h3⟩:=dj.mp r;subst h3;obtain⟨t,et⟩:=(Ny Y:∃t,v=cY p t);exact⟨p,t,h2,et⟩
 have Z:y.length<64:=by lia
 refine ac (wpAny_newList ?_ (by rw[bV];lia));have g:(B.push (nP "list" y.toArray 0)).get? B.objs.size=ae (nP "list" y.toArray 0):=aq _ rfl;refine ac (cJ (cC slot_list_sort ⟨_,g,rfl⟩ mL (list_sort_treeK strKind_oneLt g U.keysOf (λl h n e=>keyKind_strs (by rw[<-e];exact U)) Z λc hp σ=>⟨_,rfl,?_⟩) (args_list_sort _)));obtain⟨ts,w,a2,a3⟩:=sorted_out_str U hp σ;generalize(arrOf c).map (·.2)=out at w⊢;refine ah ⟨_,rfl,?_⟩;obtain⟨e,he⟩:=sortedHeap_at (out:=out) g;have M:∀b o,s.heap.get? b=ae o->b<B.objs.size:=λb o z=>ax (hk b o z);have f:∀b o,s.heap.get? b=ae o->(sortedHeap (B.push (nP "list" y.toArray 0)) B.objs.size y out).get? b=ae o:=λb o z=>by
  have M:=M b o z;rw[sortedHeap_old (aT M) (by rw[size_push'];exact cq M)];exact af _ (hk b o z)
 have V:ts.length<=63:=by rw[a2.length_eq];lia
 refine⟨.b B.objs.size,_,I.mp (t':=C) (o:= .a (ts.map λx=>tx x.cps.toList)) f G ⟨?_,out.toList,e,KN w,by rw[kl];exact he⟩,rfl,q _ ts (I.a.J G) a2 a3⟩;rw[az,bV];lia
def BQ(c:gk):List gk->gk
 |[]=>[]
 |[a]=>a
 |a::b::r=>a++c++BQ c (b::r)
theorem Ko(c:gk):∀ (d:List gk),k8 ⟨c.toArray⟩ (d.map λa=>⟨a.toArray⟩)=⟨(BQ c d).toArray⟩
 |[]=>rfl
 |[a]=>by simp[k8,BQ]
 |a::b::r=>by
  have e:=Ko c (b::r);rw[aY,aY]at*
  show(⟨a.toArray⟩:Str)++⟨c.toArray⟩++k8 ⟨c.toArray⟩ (⟨b.toArray⟩::r.map λa=>⟨a.toArray⟩)=_;rw[e];show(⟨a.toArray++c.toArray++(BQ c (b::r)).toArray⟩:Str)=_;simp[BQ]
def Nb(K:aB):V->gr->Hp->VK->Prop:=λx vs H Q=>∃ (p:ay) (c:gk) (b:List gk),x=tx c/\c.length<=16/\vs=[.b p]/\pq K H p (b.map tx)/\b.flatten.length+b.length<=1000000/\Q (tx (BQ c b)) H
def HR(K:aB)(d:X.K=K<|>n'):wb X "str.join" (Nb K):=by
 subst d;intro l s f H x g v L Q I i rv h;obtain⟨p,c,b,rfl,j,rfl,y,M,q⟩:=h;obtain⟨t,rfl⟩:=i;obtain⟨u,rfl,z⟩:=rv.Z
 cases z
 obtain⟨B,r,ht,P⟩:=I.J y;have G:((b.map λa=>(⟨a.toArray⟩:Str)).map (·.length)).sum=b.flatten.length:=by
  rw[dC,kG];congr 1
 refine join_listW ht.isList (MP r) (by rw[BG];exact j) (by rw[G,az];lia) λJ k=>?_;have e:Txt.join ⟨c.toArray⟩ (b.map λa=>⟨a.toArray⟩)=⟨(BQ c b).toArray⟩:=by
  show lR _ _=_;rw[jO,Ko]
 rw[e];exact⟨tx (BQ c b),H,I.Z k,⟨J,rfl⟩,q⟩
def Hr(b:c.length<=16)(d:pq K H p (xss.map tx))(e:xss.flatten.length+xss.length<=1000000)(h:Q (tx (BQ c xss)) H):Nb K (tx c) [.b p] H Q:=⟨p,c,xss,rfl,b,rfl,d,e,h⟩
def Ab(n:Nat):gk:=(jR 10 n).map Char.toNat
def Hx(m:Nat):iD (toString ((m:Nat):Int))=⟨(Ab m).toArray⟩:=by
 have h:=W.KIN.signs_num m
 cases e:iD (toString ((m:Nat):Int))with
 |mk b=>
  rw[e]at h;congr 1;apply Array.toList_inj.mp;rw[h];rfl
def wm:gr->Hp->VK->Prop:=λb H Q=>∃n:Nat,b=[tx (Ab n)]/\n<10^10/\Q (.a (n:Nat)) H
def HB:pH X (.type "int") wm:=by
 rintro c s a H b d Q I rv ⟨n,e,f,q⟩;subst e;obtain⟨u,rfl,t,rfl⟩:=rv.Z;have e:(⟨(Ab n).toArray⟩:Str)=iD (toString ((n:Nat):Int)):=(Hx n).symm;show aO _ _ (call (.type "int") [.str ⟨(Ab n).toArray⟩ t]) _ _ _;rw[e];exact W.KIN.call_num oZ oZ ⟨.a (n:Nat),H,I.Z _,⟨_,rfl⟩,q⟩
def F7(b:n<10^10)(q:Q (.a (n:Nat)) H):wm [tx (Ab n)] H Q:=⟨n,rfl,b,q⟩
def Mn{k:Nat}{h:hE}{p pos:Pos}(U:yM X.d X.w X.K X.h X.f k C h sp)(d:pM k X.A)(e:X.h x=ae (.ref C))(l:Gl X x<|>n')(b:qq x<|>pu):PE X (.Call (.Name x p) [] [] pos) (Ez C sp [] E0 rj):=by
 obtain⟨_,_,_,a,F,M,i⟩:=U.a;exact UW M F (d.ld a) l e i .nil E6 b
section
variable{O:pz}{td ty:TE}
def Xb(h:td O H λx b=>∃a,x= .b a/\xc b a/\ty O b λy d=>∃ph k v,d a=ae (.d ph)/\y=kV k/\AT ph k=ae v/\Q v (upd d a (.d (Bd ph k)))):NQ td ty O H Q:=h
end
def Fb(n:Nat):∀c∈Ab n,48<=c/\c<=57:=by
 intro c d;obtain⟨i,b,e⟩:=bJ.mp d;have r:=digit_range (Nat.isDigit_of_mem_toDigits oY oY b);rw[<-e];exact r
def Hy(n:Nat):Ab n≠[]:=by
 intro e;have h:=toDigits_len_ge 10 n;rw[kF.mp e]at h;exact absurd h oY
def EN(h:n<10):Ab n=[48+n]:=by
 unfold Ab;rw[Nat.toDigits_of_lt_base h];have:∀d:Nat,d<10->(Nat.digitChar d).toNat=48+d:=by decide
 simp[this n h]
def Ki(h:10<=n):Ab n=Ab (n/10)++Ab (n%10):=by
 have b:n%10<10:=lL n oY;have t:jR 10 (n/10)++jR 10 (n%10)=jR 10 (10*(n/10)+n%10):=Nat.toDigits_append_toDigits oY oZ b;rw[Nat.div_add_mod]at t;unfold Ab;rw[<-t,b0]
def DA:∀ (m n:Nat),n<10^(m+1)->(Ab n).length<=m+1:=by
 intro m
 induction m with
 |zero=>intro n h;rw[EN oZ];simp
 |succ m b=>
  intro n h
  by_cases d:n<10
  .rw[EN d];simp
  .rw[Ki oZ,aN,EN (lL n oY)];have:=b (n/10) (by rw[Nat.pow_succ]at h;lia);simp only[aJ,dP];lia
def Sd(h:1<=n):(Ab n)[0]? ≠ae 48:=by
 induction n using Nat.strongRecOn with
 |_ n d=>
  by_cases i:n<10
  .rw[EN i];simp;lia
  .rw[Ki oZ,dA (by have:=Hy (n/10);cases e:Ab (n/10)with|nil=>exact absurd e this|cons a b=>simp)];exact d (n/10) oZ oZ
end
def cl:gk->Nat->Option (gk)
 |[],_=>none
 |p::s,q=>if p=q then ae s else none
def nx(k:Nat)(st:gk)(b:Nat):Option (gk):=if b<2*k then(if b%2=0 then ae (b/2::st)else cl st (b/2))else none
def go(k:Nat):gk->gk->Option (gk)
 |st,[]=>ae st
 |st,b::r=>(nx k st b).bind λs=>go k s r
abbrev O:=Option (Int×gk)
def uV:O->O->O
 |none,b=>b
 |some a,none=>ae a
 |some (x,l),ae (y,m)=>if x=y then(if l<m then ae (x,l)else ae (y,m))else if x>y then ae (x,l)else ae (y,m)
def tV:O->O->O
 |some (x,l),ae (y,m)=>ae (x*y,l++m)
 |_,_=>none
def vS:O->O->O
 |some (x,l),ae (y,m)=>ae (x*y,[l.getD 0 0]++m++[l.getD 1 0])
 |_,_=>none
abbrev nL(bs:gk):gr:=bs.map λb:Nat=>V.a (b:Int)
def ZQ(K:aB)(n:Nat)(t:tF):TG:=λv c H Q=>∃a b,v= .b a/\pq K H a b/\b.length=n/\t b c H Q
def Mj(K:aB){k:Nat}{t:tF}{pos:Pos}(x:X.calm=aw)(h:xm X es t)
 (y:(fq es X.a).length=n<|>n') (d:(fq es X.a).findIdx? (·.1)=none<|>n') (z:X.K=K<|>n'):PG X (.Tuple es k pos) (ZQ K n t):=by
 subst z;intro f s c H v u Q I r i;obtain⟨a,B,G,J,S,i⟩:=i;subst G
 cases r
 obtain⟨j,rv,ht,T⟩:=I.J J;have L:=rv.J;rw[assign_Tuple];refine ac (dF ?_);unfold unpack;rw[show(fq es X.a).length=j.toArray.size by rw[y,aA];lia,d];refine ac (cJ (W.kun_itemsOf (I.e.k x) ht.isList λM P=>?_));have R:Inv X f c H {s with heap:=M}:=I.ap (t':=s.toks) λb o e=>P b o (aT (ax e)) e;exact h f _ c H B _ Q R (by simpa using rv) i
section
variable{f:Nat->V}{o:O}
def Bt(F:ay->Prop)(H:Hp)(v:V):O->Prop
 |none=>v= .d
 |some (w,l)=>∃T a,v= .b T/\F T/\F a/\H T=ae (.b [.a w, .b a])/\H a=ae (.a (nL l))
def Bt.J{F:ay->Prop}{v:V}(h:Bt F H v o)(k:∀b x,F b->H b=ae x->H' b=ae x):Bt F H' v o:=by
 cases o with
 |none=>exact h
 |some o=>obtain⟨w,l⟩:=o;obtain⟨T,a,e,d,i,j,c⟩:=h;exact⟨T,a,e,d,i,k _ _ d j,k _ _ i c⟩
def Bt.Z{F:ay->Prop}{v:V}(h:Bt F H v o)(s:pj H H'):Bt F H' v o:=h.J λb x _ z=>s b x z
def Bt.ap{F G:ay->Prop}{v:V}(h:Bt F H v o)(k:∀b x,F b->H b=ae x->G b):Bt G H v o:=by
 match o,h with
 |none,h=>exact h
 |some (w,l),⟨T,a,e,i,j,d,c⟩=>exact⟨T,a,e,k _ _ i d,k _ _ j c,d,c⟩
abbrev Any:ay->Prop:=λ_=>True
def Sz(o:O):Prop:=∀w l,o=ae (w,l)->w.natAbs<big/\l.length<=40
inductive vM:Type
 |mk (v1 v2:V) (o1 o2:O) (_:vs=[v1,v2]) (_:Bt Any H v1 o1) (_:Bt Any H v2 o2) (_:(∀w l,o1=ae (w,l)->l.length=2)) (_:Sz o1) (_:Sz o2) (_:∀v H',pj H H'->Bt (λb=>H b=none) H' v (vS o1 o2)->Q v H')
inductive uL:Type
 |mk (v1 v2:V) (o1 o2:O) (_:vs=[v1,v2]) (_:Bt Any H v1 o1) (_:Bt Any H v2 o2) (_:Sz o1) (_:Sz o2) (_:∀v H',pj H H'->Bt (λb=>H b=none) H' v (tV o1 o2)->Q v H')
def tR(n:Nat)(f:Nat->V):gr:=(aH (n+1)).map f
def MZ(n:Nat)(f:Nat->V):(tR n f).length=n+1:=by simp[tR]
def Ht(h:j<=n):(tR n f)[j]? =ae (f j):=by
 unfold tR;rw[ao,bb oZ];rfl
def Vh{v:V}:(tR n f).set j v=tR n (λx=>if x=j then v else f x):=by
 apply gU;intro i;unfold tR;rw[i3,ao,ao]
 by_cases e:j=i
 .subst e
  by_cases b:j<n+1
  .rw[bb b];simp[b]
  .rw[aU rfl,aP (by simpa using b)];rw[b8 (by simpa using b)];rfl
 .rw[aP e]
  by_cases a:i<n+1
  .rw[bb a];simp[cV e]
  .rw[b8 (by simpa using a)];rfl
structure Tv (H0 H1 H:Hp) (s:ay) (ad:Nat->ay) (n:Nat) (T:Nat->Nat->V):Prop where
 l:H0 s=none
 k:∀i,i<=n->H0 (ad i)=none
 h:∀i,i<=n->ad i≠s
 e:∀i j,i<=n->j<=n->ad i=ad j->i=j
 d:∀i,i<=n->H1 (ad i)≠none
 a:H s=ae (.a ((aH (n+1)).map λi=>V.b (ad i)))
 c:∀i,i<=n->H (ad i)=ae (.a (tR n (T i)))
 f:pj H0 H
 g:∀b,H b=none->H1 b=none
section
variable{H0:Hp}{s:ay}{T T':Nat->Nat->V}
theorem Tv.J(t:Tv H0 H1 H s ad n T)(h:pj H H'):Tv H0 H1 H' s ad n T:=⟨t.l,t.k,t.h,t.e,t.d,h _ _ t.a,λi a=>h _ _ (t.c i a),t.f.J h,λb z=>t.g b (h.Z z)⟩
def Tv.at(t:Tv H0 H1 H s ad n T)(h:i<=n):((aH (n+1)).map λi=>V.b (ad i))[i]? =ae (.b (ad i)):=by
 rw[ao,bb oZ];rfl
def Tv.ld(t:Tv H0 H1 H s ad n T){v:V}(h:i<=n):Tv H0 H1 (upd H (ad i) (.a ((tR n (T i)).set j v))) s ad n (λa b=>if a=i then(if b=j then v else T a b)else T a b):=by
 refine⟨t.l,t.k,t.h,t.e,t.d,by rw[AG (cV (t.h i h))];exact t.a,λa d=>?_,λb o z=>?_,λb z=>?_⟩
 .by_cases e:a=i
  .subst e;rw[AF,Vh];simp
  .rw[AG (λz=>e (t.e a i d h z)),t.c a d];simp[e]
 .rw[AG (AQ z (t.k i h))];exact t.f b o z
 .by_cases e:b=ad i
  .subst e;rw[AF]at z;cases z
  .rw[AG e]at z;exact t.g b z
def Tv.Z(t:Tv H0 H1 H s ad n T)(h:i<=n){o:HO}(b:ay)(x:HO)(f:H1 b=none)(z:H b=ae x):(upd H (ad i) o) b=ae x:=by
 have a:b≠ad i:=λe=>t.d i h (by rw[<-e];exact f);rw[AG a];exact z
end
def rS(l:gk):gk:=l.map λb=>pN.getD b 0
def Ft(H:Hp)(v:V):O->Prop
 |none=>v= .d
 |some (w,l)=>∃T,v= .b T/\H T=ae (.b [.a w,tx (rS l)])
def Tu:(pD^40).natAbs<big:=by unfold big pD;decide +kernel
end
def wq(c b:Nat):Bool:=decide (c=63\/c=pN.getD b 0)
section
variable{co pl:ay}{ra:List ay}{st:gk}{at':Nat}
abbrev qy(k:Nat)(a:gk):Nat->Nat->Int:=PP (a.map (pO (ones k)))
def W(k:Nat)(a:gk)(i:Nat)(st:gk):Int:=cv (qy k a) k (a.length-i) i st
def Ci(k:Nat)(a:gk)(st:gk):hO:=(aH (a.length+1)).map λi=>W k a i st
def Mc{k:Nat}(h:i<=a.length):((Ci k a st).map V.a)[i]? =ae (.a (W k a i st)):=by
 unfold Ci;rw[dC,ao,bb oZ]
 rfl
def GR{k:Nat}(h:k<=4)(d:a.length<=40)(i:Nat)(st:gk):0<=W k a i st/\W k a i st<=vt:=GC h (λl b=>(CH h l b).2) oZ i st
def Wg(k:Nat)(a:gk)(i o:Nat)(st:gk)(h:i<=a.length):W k a i (o::st)=sm ((a.length-i+1)/2) λq=>qa (qy k a) k i (i+2*q)*qy k a (i+2*q) (2*o+1)*W k a (i+2*q+1) st:=by
 unfold W;rw[L6 _ _ _ _ _ (am _),Hm]
 .refine BW _ λq d=>?_;unfold qa;rw[aU oZ,show i+2*q-i=2*q by lia,show a.length-i-2*q-1=a.length-(i+2*q+1) by lia]
 .intro e j b;rw[D3 e i [] (by simpa using b),gj,gj]
def B0(st:gk):gr:=st.reverse.map λp:Nat=>V.a (2*(p:Int)+1)
def cf(pl h l k:ay)(b:Int):List (Str×V):=[("places", .b pl),("sums", .b h),("at", .a b),("closings", .b l),("rests", .b k)]
structure rk (C:ay) (H0 H:Hp) (co:ay) (k:Nat) (a:gk) (at':Nat) (st:gk) (dx pl sm cl rs:ay) (Hz Hb:Hp) (ad:Nat->ay) (ra:List ay):Prop where
 c:H co=ae (.c C dx (cf pl sm cl rs at'))
 t:qV Hb pl (a.map (pO (ones k)))
 s:Tb Hz Hb sm ad a.length (qa (qy k a) k)
 l:pf co Hb H
 o:∀xs,Hb co≠ae (.a xs)
 n:Hb cl=none
 m:Hb rs=none
 r:cl≠rs
 p:H cl=ae (.a (B0 st))
 d:H rs=ae (.a (ra.map V.b))
 b:ra.length=st.length+1
 e:∀ (j:Nat) x,ra[j]? =ae x->H x=ae (iL (Ci k a (st.drop (st.length-j))))/\x≠cl/\x≠rs
 u:pj H0 H
 g:H0 co=none
 h:H0 cl=none
 f:H0 rs=none
 i:a.length<=40
 q:k<=4
inductive Co (C:ay) (H0 H:Hp) (co:ay) (k:Nat) (a:gk) (at':Nat) (st:gk):Prop
 |mk (dx pl sm cl rs:ay) (Hz Hb:Hp) (ad:Nat->ay) (ra:List ay) (_:rk C H0 H co k a at' st dx pl sm cl rs Hz Hb ad ra)
theorem Co.J{H0:Hp}{k:Nat}(h:Co C H0 H co k a at' st)(s:pj H H'):Co C H0 H' co k a at' st:=by
 obtain⟨e,i,f,l,g,m,p,y,B,c⟩:=h;exact⟨e,i,f,l,g,m,p,y,B,⟨s _ _ c.c,c.t,c.s,λb o z n=>s _ _ (c.l b o z n),c.o,c.n,c.m,c.r,s _ _ c.p,s _ _ c.d,c.b,λj x d=>⟨s _ _ (c.e j x d).1,(c.e j x d).2⟩,c.u.J s,c.g,c.h,c.f,c.i,c.q⟩⟩
section
variable{H0:Hp}{k:Nat}{dx sm cl rs:ay}{Hz Hb:Hp}
def rk.J(c:rk C H0 H co k a at' st dx pl sm cl rs Hz Hb ad ra){b:ay}(h:Hb b=ae (.a xs)):H b=ae (.a xs):=c.l _ _ h λz=>c.o xs (by rw[<-z];exact h)
def rk.yS(c:rk C H0 H co k a at' st dx pl sm cl rs Hz Hb ad ra):Tb (λ_=>none) H sm ad a.length (qa (qy k a) k):=⟨rfl,λ_ _=>rfl,c.s.e,c.s.d,c.J c.s.a,λi b=>c.J (c.s.b i b),λ_ _ z=>nomatch z⟩
def rk.Z(c:rk C H0 H co k a at' st dx pl sm cl rs Hz Hb ad ra):qV H pl (a.map (pO (ones k))):=by
 obtain⟨b,d,e⟩:=c.t;exact⟨b,c.J d,λi f=>c.J (e i f)⟩
def rk.ld(c:rk C H0 H co k a at' st dx pl sm cl rs Hz Hb ad ra):∃x,pY (ra.map V.b) (-1)=ae (.b x)/\H x=ae (iL (Ci k a st)):=by
 obtain⟨x,b⟩:∃x,ra[st.length]? =ae x:=⟨_,al (by rw[c.b];lia)⟩;refine⟨x,Du (by rw[az,c.b];lia) (by rw[az,c.b,ao,Nat.add_sub_cancel,b];rfl),?_⟩;have:=(c.e _ x b).1;rwa[ff,fX]at this
end
def Nf{ps:List hO}(h:qV H pl ps)(k:i<ps.length):∃b x,H pl=ae (.a b)/\b[i]? =ae (.b x)/\b.length=ps.length/\H x=ae (iL (ps.getD i [])):=by
 obtain⟨d,e,j⟩:=h;exact⟨_,d i,e,by rw[ao,bb k];rfl,by rw[az,dt],j i k⟩
def Mh{ps:List hO}(h:qV H pl ps):∃b,H pl=ae (.a b)/\b.length=ps.length:=by
 obtain⟨e,d,i⟩:=h;exact⟨_,d,by rw[az,dt]⟩
inductive uj:Type
 |mk (b:Nat) (_:vs=[.a (b:Int)]) (_:Q (.c (decide (b%2=0))) H)
def Kf{b:Nat}{Q:VK}{E:XK}(q:Q (.c (decide (b%2=0))) H):uj ([.a (b:Int)]++[]) H Q E:=⟨b,rfl,q⟩
def VG(C:ay):Sp:=λvs H Q _=>∃ (co e:ay) (k:Int) (a:gk) (b:Hp),vs=[.b co, .a k,tx a]/\1<=k/\k<=4/\AR k a=aw/\H co=ae (.c C e [])/\b co=none/\pj b H/\∀d,Co C b d co k.toNat a 0 []->Q .d d
inductive wM(C:ay):Type
 |mk (co:ay) (k:Nat) (a:gk) (i:Nat) (st:gk) (H0:Hp) (_:vs=[.b co]) (_:Co C H0 H co k a i st) (_:Q (.a (W k a 0 [])) H)
inductive tQ(C:ay):Type
 |mk (co:ay) (k:Nat) (a:gk) (i:Nat) (st:gk) (H0:Hp) (s p:Nat) (_:vs=[.b co, .a (s:Int), .a (2*(p:Int)+1)]) (_:Co C H0 H co k a i st) (_:s<=a.length) (_:p<k) (_:∀H',pj H H'->Q (.a (W k a s (p::st))) H')
def mw(k:Nat)(a:gk)(i:Nat)(st:gk)(b:Nat):Int:=if b%2=0 then qy k a i b*W k a (i+1) (b/2::st)else match st with|[]=>0|o::c=>if 2*o+1=b then qy k a i b*W k a (i+1) c else 0
inductive vQ(C:ay):Type
 |mk (co:ay) (k:Nat) (a:gk) (i:Nat) (st:gk) (H0:Hp) (b:Nat) (_:vs=[.b co, .a (b:Int)]) (_:Co C H0 H co k a i st) (_:i<a.length) (_:b<2*k) (_:∀H',pj H H'->Q (.a (mw k a i st b)) H')
def qI(st:gk)(b:Nat):gk:=if b%2=0 then b/2::st else st.tail
inductive vR(C:ay):Type
 |mk (co:ay) (k:Nat) (a:gk) (i:Nat) (st:gk) (H0:Hp) (b:Nat) (_:vs=[.b co, .a (b:Int)]) (_:Co C H0 H co k a i st) (_:i<a.length) (_:b<2*k) (_:st.length<=i) (_:(b%2=1->st≠[])) (_:∀H',Co C H0 H' co k a (i+1) (qI st b)->Q .d H')
end
def Ts{O:pz}{Q:VK}{a:ay}(f v:Nat->V)(L:n<=sizeLine)(z:H a=ae (.a ((aH n).map f)))
 (B:∀D b,H D=none->pj H b->b D=ae (.a ((aH n).map v))->Q (.b D) b)
 (M:∀ (i:Nat) (b:Hp) (R:V->Hp->Prop),i<n->pj H b->(∀j,pj b j->R (v i) j)->g (f i) (AZ own sel O) b λh P=>te h P R):BV (uA K a) own sel O g qe te Q H:=by
 have S:((aH n).map f).length=n:=by rw[az,dt]
 refine Ed f L (λD i G _=>G=(aH i).map v) (λi b c d=>⟨_,f i,pq.J (d _ _ z),by rw[ao,bb c];rfl⟩) (λb d=>⟨_,pq.J (d _ _ z),by rw[S];exact am _⟩) (λi X x b c d y=>?_)
  (λ_ _=>rfl) (λ_ _ _ _ _ _ e _=>e) (λD G b I J _ d e=>B D b I d (by rw[J,e]))
  (λD i G b R I c J _ d e r=>M i b R c d λj T=>r _ j T (by rw[e,cr,b0];rfl))
 obtain⟨rfl,U⟩:=y;have:=U _ (pq.J (d _ _ z));rw[ao,bb c]at this;exact⟨rfl,(bv this).symm⟩
section
variable{ra:List ay}{s' st:gk}{b:Nat}{Q:VK}{E:XK}
def yb{x c:Int}(k:0<=x)(h:x<=c)(b:c.natAbs<big):x.natAbs<big:=by
 have:x.natAbs<=c.natAbs:=by lia
 lia
def Hi{k:Nat}(h:k<=4)(d:j<=40):0<=qa (qy k a) k i j/\qa (qy k a) k i j<=vt:=by
 unfold qa
 split
 .exact GC h (λl b=>(CH h l b).2) oZ i []
 .exact⟨dw _,by unfold vt pD;decide +kernel⟩
def Es{k:Nat}(h:k<=4)(i b:Nat):0<=qy k a i b/\qy k a i b<=pD:=CY (λl d=>(CH h l d).2) i b
def Wi{k:Nat}(h:k<=4)(y:j<=40):(qa (qy k a) k i j*qy k a j b).natAbs<big:=by
 obtain⟨d,e⟩:=Hi (a:=a) h (i:=i) y;obtain⟨x,z⟩:=Es (a:=a) h j b;refine yb (c:=vt*pD) (bA d x) (b9 (bQ e x) (hX z (b9 d e))) ?_;unfold vt big pD;decide +kernel
def Io{k:Nat}(m:k<=4)(h:i<a.length):qy k a i b=0\/qy k a i b=1:=by
 show((a.map (pO (ones k))).getD i []).getD b 0=0\/((a.map (pO (ones k))).getD i []).getD b 0=1;rw[ag (l:=a.map (pO (ones k))),ao,al h];show(pO (ones k) a[i]).getD b 0=0\/(pO (ones k) a[i]).getD b 0=1;unfold pO;rw[ag]
 split
 .cases e:(ones k)[b]? with
  |none=>exact .inl rfl
  |some v=>
   have:=cE e;rw[e8 this];exact .inr rfl
 .rw[ao]
  cases e:(pN.take (ones k).length)[b]? with
  |none=>exact .inl rfl
  |some v=>
   show(if a[i]=v then(1:Int)else 0)=0\/(if a[i]=v then(1:Int)else 0)=1
   split
   .exact .inr rfl
   .exact .inl rfl
def EU(o:Nat)(s:gk):B0 (o::s)=B0 s++[.a (2*(o:Int)+1)]:=by unfold B0;rw[List.reverse_cons,b0];rfl
def TU(o:Nat)(s:gk):pY (B0 (o::s)) (-1)=ae (.a (2*(o:Int)+1)):=by rw[EU];exact ME _ _
def U7{xs:List α}{v:α}(h:1<xs.length)(e:xs[xs.length-2]? =ae v):pY xs (-2)=ae v:=by
 unfold pY qW;rw[aP oY,aU oZ];show xs[((-2:Int)+xs.length).toNat]? =ae v;rw[show((-2:Int)+(xs.length:Int)).toNat=xs.length-2 by lia];exact e
section
variable{H0:Hp}{co:ay}{k:Nat}{dx pl sm cl rs:ay}{Hz Hb:Hp}
def rk.ap(c:rk C H0 H co k a i st dx pl sm cl rs Hz Hb ad ra){b:ay}(h:H b=ae (.a xs)):b≠co:=λz=>by rw[z,c.c]at h;cases h
def rk.at(c:rk C H0 H co k a i st dx pl sm cl rs Hz Hb ad ra)(j:Nat):rk C H0 (upd H co (.c C dx (cf pl sm cl rs j))) co k a j st dx pl sm cl rs Hz Hb ad ra:=
 {c:=AF,t:=c.t,s:=c.s,l:=c.l.J pf.ap,o:=c.o,n:=c.n,m:=c.m,r:=c.r
  p:=by rw[AG (c.ap c.p)];exact c.p
  d:=by rw[AG (c.ap c.d)];exact c.d
  b:=c.b
  e:=λn x d=>⟨by rw[AG (c.ap (c.e n x d).1)];exact(c.e n x d).1,(c.e n x d).2⟩
  u:=λb o z=>by rw[AG (AQ z c.g)];exact c.u _ _ z
  g:=c.g,h:=c.h,f:=c.f,i:=c.i,q:=c.q}
def rk.mp(c:rk C H0 H co k a i st dx pl sm cl rs Hz Hb ad ra)(d:gk)(ra':List ay)(B:ra'.length=d.length+1)
 (G:∀ (j:Nat) x,ra'[j]? =ae x->H x=ae (iL (Ci k a (d.drop (d.length-j))))/\x≠cl/\x≠rs):
 rk C H0 (upd (upd H rs (.a (ra'.map V.b))) cl (.a (B0 d))) co k a i d dx pl sm cl rs Hz Hb ad ra':=
 {c:=by rw[AG (c.ap c.p).symm,AG (c.ap c.d).symm];exact c.c
  t:=c.t,s:=c.s
  l:=λb o z I=>by rw[AG (AQ z c.n),AG (AQ z c.m)];exact c.l _ _ z I
  o:=c.o,n:=c.n,m:=c.m,r:=c.r
  p:=AF
  d:=by rw[AG c.r.symm,AF]
  b:=B
  e:=λj x J=>by
   obtain⟨L,e,y⟩:=G j x J;exact⟨by rw[AG e,AG y];exact L,e,y⟩
  u:=λb o z=>by rw[AG (AQ z c.h),AG (AQ z c.f)];exact c.u _ _ z
  g:=c.g,h:=c.h,f:=c.f,i:=c.i,q:=c.q}
def rk.mt(c:rk C H0 H co k a i st dx pl sm cl rs Hz Hb ad ra){D:ay}{p:Nat}(d:H D=ae (iL (Ci k a (p::st))))(m:D≠cl)(l:D≠rs):
 rk C H0 (upd (upd H rs (.a ((ra++[D]).map V.b))) cl (.a (B0 (p::st)))) co k a i (p::st) dx pl sm cl rs Hz Hb ad (ra++[D]):=by
 refine c.mp (p::st) (ra++[D]) (by rw[aN,c.b];rfl) λj x b=>?_
 by_cases h:j<ra.length
 .rw[dA h]at b;obtain⟨e,y⟩:=c.e j x b;refine⟨?_,y⟩;have B:=c.b;rw[e,aJ,show st.length+1-j=(st.length-j)+1 by lia,kI]
 .rw[cN oZ]at b;have z:j=ra.length:=by
   have:=(aR.mp b).1;simp at this;lia
  subst z;rw[ff]at b;have b:D=x:=bv b;subst b;rw[c.b,aJ,ff,fX];exact⟨d,m,l⟩
def rk.pop{o:Nat}(c:rk C H0 H co k a i (o::s') dx pl sm cl rs Hz Hb ad ra):
 rk C H0 (upd (upd H rs (.a (ra.dropLast.map V.b))) cl (.a (B0 s'))) co k a i s' dx pl sm cl rs Hz Hb ad ra.dropLast:=by
 have b:=c.b;rw[aJ]at b;refine c.mp s' ra.dropLast (by rw[ia,b];lia) λj x d=>?_;have e:j<ra.dropLast.length:=(aR.mp d).1;rw[ia,b]at e;rw[List.getElem?_dropLast,aU oZ]at d;obtain⟨y,z⟩:=c.e j x d;refine⟨?_,z⟩;rw[y,aJ,show s'.length+1-j=(s'.length-j)+1 by lia,kI]
end
def Kl{k:Nat}(h:k<=4)(d:a.length<=40)(i:Nat)(st:gk)(b:Nat):0<=mw k a i st b:=by
 unfold mw
 split
 .exact bA (Es h _ _).1 (GR h d _ _).1
 .cases st with
  |nil=>exact dw _
  |cons o e=>
   show 0<=(if 2*o+1=b then qy k a i b*W k a (i+1) e else 0)
   split
   .exact bA (Es h _ _).1 (GR h d _ _).1
   .exact dw _
def yH(k:Nat)(a:gk)(i:Nat):gk->Nat->Int
 |[],_=>0
 |o::s',p=>if o=p then qy k a i (2*p+1)*W k a (i+1) s' else 0
def Nu{k:Nat}(l:i<a.length)(e:∀o∈st,o<k):sm (2*k) (mw k a i st)=W k a i st:=by
 rw[LT];have B:∀p,mw k a i st (2*p)=qy k a i (2*p)*W k a (i+1) (p::st):=λp=>by
  unfold mw;rw[aU oZ,show 2*p/2=p by lia]
 have G:∀p,mw k a i st (2*p+1)=yH k a i st p:=λp=>by
  unfold mw;rw[aP oZ]
  cases st with
  |nil=>rfl
  |cons o x=>
   show(if 2*o+1=2*p+1 then _ else _)=(if o=p then _ else _)
   by_cases h:o=p
   .rw[aU h,aU oZ]
   .rw[aP h,aP oZ]
 obtain⟨m,H⟩:∃m,a.length-i=m+1:=⟨a.length-i-1,by lia⟩;have d:a.length-(i+1)=m:=by lia
 rw[BW k λp _=>by rw[B,G],F6];unfold W;rw[H,d]
 cases st with
 |nil=>rw[Et,qJ (f:=λb=>yH k a i [] b) k (λ_ _=>rfl),oa]
 |cons o x=>
  rw[Fw];congr 1;have I:=e o aG;rw[Wv (f:=λb=>yH k a i (o::x) b) I]
  .show(if o=o then qy k a i (2*o+1)*W k a (i+1) x else 0)=_;rw[aU rfl];unfold W;rw[d]
  .intro j J y;show(if o=j then _ else _)=(0:Int);rw[aP (λz=>y z.symm)]
def NF(k:Nat)(a:gk):Nat->gk->Int->gk->Prop
 |i,_,l,[]=>i=a.length/\l=0
 |i,st,l,b::c=>b<2*k/\sm b (mw k a i st)<=l/\l<sm (b+1) (mw k a i st)/\NF k a (i+1) (qI st b) (l-sm b (mw k a i st)) c
def pU(bs:gk):gk:=bs.map λb=>pN.getD b 0
def OJ:Sp:=λvs H Q _=>∃ (k:Int) (a:gk) (n:Int),vs=[.a k,tx a, .a n]/\1<=k/\k<=4/\AR k a=aw/\0<=n/\n<qc k.toNat a/\∀bs b,pj H b->NF k.toNat a 0 [] n bs->bs.length=a.length->Q (tx (pU bs)) b
def MA{k:Nat}(l:k<=4)(d:a.length<=40)(i:Nat)(st:gk)(h:b<=c):sm b (mw k a i st)<=sm c (mw k a i st):=by
 induction c with
 |zero=>rw[show b=0 by lia];exact dw _
 |succ c j=>
  by_cases e:b=c+1
  .rw[e];exact dw _
  .have x:=j oZ;have y:=Kl l d i st c;show _<=sm c (mw k a i st)+mw k a i st c;lia
def Nt{k:Nat}(l:k<=4)(L:a.length<=40)(m:i<a.length)(j:∀o∈st,o<k)(M:b<2*k)(h:0<mw k a i st b):mw k a i st b=W k a (i+1) (qI st b)/\(b%2=1->st≠[])/\(∀o∈qI st b,o<k)/\(qI st b).length<=st.length+1:=by
 have y:qy k a i b≠0->qy k a i b=1:=λz=>(Io l m).resolve_left z
 by_cases d:b%2=0
 .have e:mw k a i st b=qy k a i b*W k a (i+1) (b/2::st):=by unfold mw;rw[aU d]
  have G:qI st b=b/2::st:=by unfold qI;rw[aU d]
  rw[e]at h⊢;have H:=y λz=>by rw[z,gj]at h;exact absurd h (ig _)
  rw[G,H,gV];refine⟨rfl,by lia,λo B=>?_,by simp⟩;rcases aL.mp B with z|z
  .lia
  .exact j o z
 .have G:qI st b=st.tail:=by unfold qI;rw[aP d]
  rw[G]
  cases st with
  |nil=>
   unfold mw at h;rw[aP d]at h;exact absurd h (ig _)
  |cons o I=>
   have e:mw k a i (o::I) b=if 2*o+1=b then qy k a i b*W k a (i+1) I else 0:=by unfold mw;rw[aP d]
   rw[e]at h⊢
   by_cases B:2*o+1=b
   .rw[aU B]at h⊢;have H:=y λz=>by rw[z,gj]at h;exact absurd h (ig _)
    rw[H,gV];exact⟨rfl,λ_=>by simp,λx J=>j x (aM _ J),by simp;lia⟩
   .rw[aP B]at h;exact absurd h (ig _)
def JA(k:Nat)(a:gk)(st:gk):W k a a.length st=if st=[]then 1 else 0:=by
 unfold W;rw[ff]
 cases st<;>rfl
def num(k:Nat)(a:gk):Nat->gk->gk->Int
 |_,_,[]=>0
 |i,st,b::c=>sm b (mw k a i st)+num k a (i+1) (qI st b) c
def NF.J{k:Nat}(h:k<=4)(d:a.length<=40){l m:Int}(e:l<=m)(j:sm b (mw k a i st)<=l)(x:m<sm (c+1) (mw k a i st)):b<=c:=by
 rcases l4 c b with z|z
 .have:=MA h d i st (show c+1<=b from z);lia
 .exact z
theorem NF.Z{k:Nat}(m:k<=4)(d:a.length<=40):∀ {bs cs:gk} {i:Nat} {j:gk} {l:Int},bs.length=cs.length->NF k a i j l bs->NF k a i j l cs->bs=cs
 |[],[],_,_,_,_,_,_=>rfl
 |[],_::_,_,_,_,h,_,_=>by cases h
 |_::_,[],_,_,_,h,_,_=>by cases h
 |b::bs,c::cs,i,j,l,h,x,f=>by
  have y:=NF.J m d (dw l) x.2.1 f.2.2.1;have z:=NF.J m d (dw l) f.2.1 x.2.2.1;have e:b=c:=by lia
  subst e;rw[NF.Z m d (by simpa using h) x.2.2.2 f.2.2.2]
def Fi(k:Nat)(a:gk):Nat->gk->gk->Prop
 |i,st,[]=>i=a.length/\st=[]
 |i,st,b::c=>b<2*k/\qy k a i b=1/\(b%2=1->∃s',st=b/2::s')/\Fi k a (i+1) (qI st b) c
theorem Fi.J{k:Nat}:∀ {bs:gk} {i:Nat} {d:gk},Fi k a i d bs->i+bs.length=a.length
 |[],_,_,h=>h.1
 |b::bs,i,d,h=>by
  have:=Fi.J h.2.2.2;rw[aJ];lia
theorem Fi.Z{k:Nat}(l:k<=4)(G:a.length<=40):∀ {bs:gk} {i:Nat} {d:gk},(∀o∈d,o<k)->Fi k a i d bs->NF k a i d (num k a i d bs) bs/\0<=num k a i d bs/\num k a i d bs<W k a i d
 |[],i,d,e,h=>by
  obtain⟨H,B⟩:=h;subst H B;refine⟨⟨rfl,rfl⟩,dw _,?_⟩;rw[JA,aU rfl];exact Int.zero_lt_one
 |b::bs,i,d,e,h=>by
  obtain⟨H,B,L,J⟩:=h;have c:i<a.length:=by have:=Fi.J J;lia
  have y:∀o∈qI d b,o<k:=by
   unfold qI
   split
   .intro o I;rcases aL.mp I with z|z
    .lia
    .exact e o z
   .intro o I;exact e o (kj I)
  obtain⟨M,g,S⟩:=Fi.Z l G y J;have T:mw k a i d b=W k a (i+1) (qI d b):=by
   unfold mw qI
   by_cases x:b%2=0
   .rw[aU x,aU x,B,gV]
   .obtain⟨P,rfl⟩:=L oZ;rw[aP x,aP x];show(if 2*(b/2)+1=b then qy k a i b*W k a (i+1) P else 0)=_;rw[aU oZ,B,gV]
    rfl
  have U:sm (b+1) (mw k a i d)=sm b (mw k a i d)+mw k a i d b:=rfl;have f:0<=sm b (mw k a i d):=EQ b λj _=>Kl l G i d j;have Q:num k a i d (b::bs)=sm b (mw k a i d)+num k a (i+1) (qI d b) bs:=rfl;have R:=MA l G i d (show b+1<=2*k by lia);rw[Nu c e]at R;rw[Q];refine⟨⟨H,by lia,by lia,?_⟩,by lia,by lia⟩;rw[show sm b (mw k a i d)+num k a (i+1) (qI d b) bs-sm b (mw k a i d)=num k a (i+1) (qI d b) bs by lia];exact M
set_option tactic.hygienic true in
theorem NF.ap{k:Nat}(m:k<=4)(I:a.length<=40):∀ {bs:gk} {i:Nat} {j:gk} {l:Int},i+bs.length=a.length->(∀o∈j,o<k)->0<=l->l<W k a i j->NF k a i j l bs->Fi k a i j bs
 |[],i,j,l,J,x,M,H,h=>by
  have e:i=a.length:=h.1;subst e;rw[JA]at H;refine⟨rfl,?_⟩
  by_cases z:j=[]
  .exact z
  .rw[aP z]at H;lia
 |b::bs,i,j,l,J,x,M,H,h=>by
  obtain⟨L,R,S,P⟩:=h;rw[aJ]at J;have c:i<a.length:=by lia
  have T:sm (b+1) (mw k a i j)=sm b (mw k a i j)+mw k a i j b:=rfl;obtain⟨U,y,B,_⟩:=Nt m I c x L oZ;have d:0<mw k a i j b:=by lia
  refine⟨L,(Io m c).resolve_left λz=>?_,λQ=>?_,NF.ap m I oZ B oZ oZ P⟩
  .unfold mw at d;rw[z]at d
   split at d
   .rw[gj]at d;lia
   .cases j with
    |nil=>exact absurd d (ig _)
    |cons o G=>
     have d:0<(if 2*o+1=b then 0*W k a (i+1) G else 0):=d
     split at d
     .rw[gj]at d;lia
     .lia
  .cases j with
   |nil=>exact absurd rfl (y Q)
   |cons o G=>
    unfold mw at d;rw[aP oZ]at d;have d:0<(if 2*o+1=b then qy k a i b*W k a (i+1) G else 0):=d
    split at d
    .rename_i e
     exact⟨G,by rw[show b/2=o by lia]⟩
    .lia
def LQ:Sp:=λvs H Q _=>∃ (k:Int) (a c:gk),vs=[.a k,tx a,tx (pU c)]/\1<=k/\k<=4/\AR k a=aw/\Fi k.toNat a 0 [] c/\∀b,pj H b->Q (.a (num k.toNat a 0 [] c)) b
def Rh{k:Int}{bs:gk}(d:1<=k)(e:k<=4)(i:AR k a=aw)(j:Fi k.toNat a 0 [] bs)(q:∀b,pj H b->Q (.a (num k.toNat a 0 [] bs)) b):LQ ([.a k,tx a,tx (pU bs)]++[]) H Q E:=⟨k,a,bs,rfl,d,e,i,j,q⟩
def WC{k:Int}{n:Int}(d:1<=k)(e:k<=4)(i:AR k a=aw)(j:0<=n)(x:n<qc k.toNat a)(q:∀bs b,pj H b->NF k.toNat a 0 [] n bs->bs.length=a.length->Q (tx (pU bs)) b):OJ ([.a k,tx a, .a n]++[]) H Q E:=⟨k,a,n,rfl,d,e,i,j,x,q⟩
end
section
variable{S:Hp->Prop}{R:V->Hp->Prop}
section
variable{O:pz}{Q:VK}
set_option tactic.hygienic true in
def Tj:(fun(a:pz) (d:Hp)=>qe a d λb e=>if b=aw then te a e R else S e)=λa d=>te a d R:=by
 funext a d
 exact propext ⟨λz=>by have i:=z;simp only[qe]at i;simpa using i,λz=>by show qe _ _ _;simp only[qe];simpa using z⟩
end
end
section
variable{b:Nat}
def Fy:b<8->pN[b]? =ae (pN.getD b 0):=(show∀b<8,pN[b]? =ae (pN.getD b 0) from by decide +kernel) b
def IE:∀o,o<4->pN.getD (2*o) 0∈qP/\qQ (pN.getD (2*o) 0)=pN.getD (2*o+1) 0/\pN.getD (2*o+1) 0∉qP:=by decide
def Ye:∀b,b<8->pN.getD b 0≠63:=by decide
def Wc:∀b,b<8->∀c,c<8->pN.getD b 0=pN.getD c 0->b=c:=by decide
def Wb:∀k:Nat,k<=4->∀b,b<2*k->pN.getD b 0∈sgn (k:Int):=by decide +kernel
def Wx:∀k:Nat,k<=4->∀c∈sgn (k:Int),c=63\/∃b,b<2*k/\c=pN.getD b 0:=by decide +kernel
def rR(st:gk):gk:=st.map λo=>pN.getD (2*o+1) 0
theorem Fi.ap{k:Nat}(l:k<=4):∀ {bs:gk} {i:Nat} {st:gk},(∀o∈st,o<k)->Fi k a i st bs->run (rR st) (pU bs)=ae []
 |[],i,st,d,h=>by
  obtain⟨_,rfl⟩:=h
  rfl
 |b::bs,i,st,d,h=>by
  obtain⟨P,Q,M,x⟩:=h;have e:pU (b::bs)=pN.getD b 0::pU bs:=rfl;rw[e];show(qY (rR st) (pN.getD b 0)).bind _=_
  by_cases j:b%2=0
  .obtain⟨B,G,y⟩:=IE (b/2) oZ;rw[show 2*(b/2)=b by lia]at B G y;rw[FU B,G];have H:qI st b=b/2::st:=by unfold qI;rw[aU j]
   rw[H]at x;have:=Fi.ap l (st:=b/2::st) (λo I=>by
    rcases aL.mp I with z|z
    .lia
    .exact d o z) x
   have J:rR (b/2::st)=pN.getD (b+1) 0::rR st:=by
    show pN.getD (2*(b/2)+1) 0::rR st=_;rw[show 2*(b/2)=b by lia]
   rw[J]at this;exact this
  .obtain⟨c,rfl⟩:=M oZ;obtain⟨B,G,y⟩:=IE (b/2) oZ;have L:2*(b/2)+1=b:=by lia
   rw[L]at y;have J:rR (b/2::c)=pN.getD b 0::rR c:=by
    show pN.getD (2*(b/2)+1) 0::rR c=_;rw[L]
   rw[J,Gv y];have H:qI (b/2::c) b=c:=by unfold qI;rw[aP j];rfl
   rw[H]at x;exact Fi.ap l (λo I=>d o (aM _ I)) x
def Xp{k:Nat}(l:k<=4)(e:b<2*k)(h:pw k c b=1):c=63\/c=pN.getD b 0:=by
 by_cases d:c=63
 .exact .inl d
 .refine .inr ?_;unfold pw pO at h;rw[aP d,ag,ao,li,aU (show b<(ones k).length by unfold ones;rw[dD];exact e),Fy oZ]at h;have h:(if c=pN.getD b 0 then(1:Int)else 0)=1:=h
  split at h
  .assumption
  .cases h
def OW{k:Nat}(h:a[i]? =ae c)(b:Nat):qy k a i b=pw k c b:=by
 show((a.map (pO (ones k))).getD i []).getD b 0=_;have e:(a.map (pO (ones k))).getD i []=pO (ones k) c:=by rw[ag,ao,h];rfl
 rw[e];rfl
def uT(k:Nat):gk->gk->gk->Prop
 |[],st,[]=>st=[]
 |c::r,st,b::d=>b<2*k/\pw k c b=1/\(b%2=1->∃a,st=b/2::a)/\uT k r (qI st b) d
 |_,_,_=>False
theorem Fi.l{k:Nat}:∀ {bs:gk} {i:Nat} {d:gk},Fi k a i d bs->uT k (a.drop i) d bs
 |[],i,d,h=>by
  obtain⟨rfl,rfl⟩:=h;rw[List.drop_length]
  rfl
 |b::bs,i,d,h=>by
  have c:i<a.length:=by have:=h.J;rw[aJ]at this;lia
  obtain⟨j,e,x,y⟩:=h;rw[iH c];rw[OW (al c)]at e;exact⟨j,e,x,Fi.l y⟩
theorem uT.Z{k:Nat}:∀ {bs:gk} {i:Nat} {j:gk},i<=a.length->uT k (a.drop i) j bs->Fi k a i j bs
 |[],i,j,f,h=>by
  cases e:a.drop i with
  |nil=>
   rw[e]at h;have:=List.drop_eq_nil_iff.mp e;exact⟨by lia,h⟩
  |cons c r=>rw[e]at h;exact h.elim
 |b::bs,i,j,f,h=>by
  by_cases d:i<a.length
  .rw[iH d]at h;obtain⟨x,y,z,B⟩:=h;exact⟨x,by rw[OW (al d)];exact y,z,uT.Z d B⟩
  .rw[List.drop_eq_nil_iff.mpr oZ]at h;exact h.elim
theorem uT.at{k:Nat}:∀ {a j bs:gk},uT k a j bs->∀ {i c b:Nat},a[i]? =ae c->bs[i]? =ae b->b<2*k/\pw k c b=1
 |c::r,j,b::bs,h,0,f,g,d,e=>by
  obtain rfl:c=f:=bv d;obtain rfl:b=g:=bv e;exact⟨h.1,h.2.1⟩
 |c::r,j,b::bs,h,i+1,f,g,d,e=>uT.at h.2.2.2 (i:=i) d e
 |[],_,_,_,i,_,_,d,_=>by simp at d
 |_::_,_,[],_,i,_,_,_,e=>by simp at e
theorem uT.J{k:Nat}:∀ {a d bs:gk},uT k a d bs->∀b∈bs,b<2*k
 |[],_,[],_,_,e=>nomatch e
 |c::r,d,b::bs,h,x,i=>by
  rcases aL.mp i with z|z
  .rw[z];exact h.1
  .exact uT.J h.2.2.2 x z
 |[],_,_::_,h,_,_=>h.elim
 |_::_,_,[],h,_,_=>h.elim
def Sw{k:Nat}{bs:gk}(l:k<=4)(d:bs.length<=40)(h:∀b∈bs,b<2*k):AR (k:Int) (pU bs)=aw:=by
 unfold AR pU;rw[aW,az];refine⟨be d,?_⟩;rw[a'];intro c e;obtain⟨b,i,rfl⟩:=bJ.mp e;exact be (Wb k l b (h b i))
def Zw(c d:Nat):su (tx [c]) [tx [63],tx [d]]=(decide (c=63)||decide (c=d)):=by
 unfold su;simp only[dG,l8,GB,nM];have e:∀x:Nat,decide ([x]=[c])=decide (c=x):=λx=>by
  by_cases z:c=x
  .subst z;rw[be rfl,be rfl]
  .rw[ba z,ba (by simpa using λy=>z y.symm)]
 rw[e,e]
def Sv{k:Int}(h:AR k a=aw):∀c∈a,c∈sgn k:=λc b=>by
 unfold AR at h;rw[aW,a']at h;exact iR (h.2 c b)
inductive vN:Type
 |mk (c b:Nat) (_:vs=[tx [c],tx [b]]) (_:∀H',pj H H'->Q (.c (!decide (c=63\/c=b))) H')
def uU(k c:Nat):hO:=(pN.take (2*k)).map λb=>if c=63\/c=b then 2 else 1
inductive uF:Type
 |mk (k:Int) (a:gk) (_:vs=[.a k,tx a]) (_:1<=k) (_:k<=4) (_:a.length<=40) (_:∀r H',H r=none->pj H H'->qV H' r (a.map (uU k.toNat))->Q (.b r) H')
def Vt{k:Nat}(h:k<=4):(uU k c).length=2*k:=by
 unfold uU;rw[az,cU];show min (2*k) 8=2*k;lia
def Xw(k c:Nat):Sm (uU k c):=by
 intro v d;unfold uU at d;obtain⟨b,_,rfl⟩:=bJ.mp d
 split<;>exact⟨by decide,by decide⟩
def chg:gk->gk->Nat
 |c::a,b::l=>(if wq c b=aw then 0 else 1)+chg a l
 |_,_=>0
theorem GD:∀ (a l:gk),chg a l<=l.length
 |[],l=>by unfold chg;exact bt _
 |c::a,[]=>by unfold chg;exact bt _
 |c::a,b::l=>by
  have:=GD a l;unfold chg;rw[aJ]
  split<;>lia
def zH(a:gk)(H:Hp)(v:V):O->Prop
 |none=>v= .d
 |some (w,l)=>∃T,v= .b T/\H T=ae (.b [.a (chg a l),tx (rS l)])
abbrev Pc(k:Nat)(a:gk):Nat->Nat->Int:=PP (a.map (uU k))
def ZO(c b:Nat):su (tx [c]) [tx [63],tx [b]]=decide (c=63\/c=b):=by
 unfold su;simp only[dG,l8,GB]
 by_cases d:c=63<;>by_cases e:c=b<;>simp[d,e,eq_comm]<;>lia
def Ul(b:gr)(x:V):pY (b++[x]) (-1)=ae x:=Du b' b'
theorem NI:∀ (a l:gk),a.length=l.length->((aH a.length).map λi=>(if wq (a.getD i 0) (l.getD i 0)=aw then(0:Int)else 1)).sum=chg a l
 |[],[],_=>rfl
 |c::a,b::l,h=>by
  have d:=NI a l (by simpa using h);rw[aJ,gO,aY,dC,List.sum_cons];have e:((aH a.length).map ((λi=>(if wq ((c::a).getD i 0) ((b::l).getD i 0)=aw then(0:Int)else 1))∘Nat.succ))=(aH a.length).map λi=>(if wq (a.getD i 0) (l.getD i 0)=aw then(0:Int)else 1):=dO λi _=>rfl;rw[e,d,chg];show(if wq c b=aw then(0:Int)else 1)+_=_
  split<;>simp
 |[],_::_,h=>by cases h
 |_::_,[],h=>by cases h
theorem Ja{h:Type}(f:α->List h)(n:Nat)(b:∀x,(f x).length<=n):∀ (l:List α),(l.flatMap f).length<=n*l.length
 |[]=>by simp
 |x::l=>by
  have:=Ja f n b l;have:=b x;rw[List.flatMap_cons,aN,aJ,Nat.mul_succ];lia
end
def zl(L:hO):Int:=L.foldr (· + ·) 0
section
variable{P:Nat->Nat->Int}
section
variable{k:Nat}
def Of(P:Nat->Nat->Int)(k n:Nat):Nat->Nat->Nat->Int
 |0,_,_=>0
 |f+1,t,j=>(if j=n then qa P k 0 t else 0)+sm n (λu=>qa P k (u+1) t*(pr P k u j*sm (n+1) (λs=>Of P k n f u s*qa P k (j+1) s)))
def Oo(P:Nat->Nat->Int)(k n t j:Nat):Int:=Of P k n (n+1) t j
def out(P:Nat->Nat->Int)(k n u j:Nat):Int:=sm (n+1) (λs=>Oo P k n u s*qa P k (j+1) s)
end
end
def rF(n:Nat):List (Nat×Nat):=(aH n).flatMap λs=>(aH ((n-s)/2)).map λq=>(s,s+1+2*q)
def yW(P:Nat->Nat->Int)(k n s e:Nat):Int:=qa P k (s+1) e*out P k n s e
def Tb.mt{H0:Hp}{s F:ay}{T:Nat->Nat->Int}(t:Tb H0 H s ad n T)(d:H0 F=none)(e:F≠s)(j:∀i,i<=n->F≠ad i)(h:pf F H H'):Tb H0 H' s ad n T:=
 ⟨t.g,t.f,t.e,t.d,h _ _ t.a e.symm,λi a=>h _ _ (t.b i a) (j i a).symm,λb o z=>h _ _ (t.c b o z) (AQ z d)⟩
def Bq(n s q:Nat):List (Nat×Nat):=((aH s).flatMap λs=>(aH ((n-s)/2)).map λq=>(s,s+1+2*q))++(aH q).map λq=>(s,s+1+2*q)
def Xs(n s q:Nat):Bq n s (q+1)=Bq n s q++[(s,s+1+2*q)]:=by
 unfold Bq;rw[cr,b0,<-fQ];rfl
def Xr(n s:Nat):Bq n (s+1) 0=Bq n s ((n-s)/2):=by
 unfold Bq;rw[cr,ir];simp
def UP(n:Nat):Bq n n 0=rF n:=by unfold Bq rF;simp
def UO(n s q:Nat)(b:s<=n)(d:q<=n)(e:n<=40):(Bq n s q).length<=1700:=by
 unfold Bq;rw[aN,az,dt];have:=Ja (λs=>(aH ((n-s)/2)).map λq=>(s,s+1+2*q)) 20 (λx=>by rw[az,dt];lia) (aH s);rw[dt]at this;lia
def rQ(m:Nat)(f:Nat->Int):gr:=(aH m).map λj=>V.a (f j)
def Ma(m:Nat)(f:Nat->Int):(rQ m f).length=m:=by simp[rQ]
def Mb{m:Nat}(h:j<m):(rQ m f)[j]? =ae (.a (f j)):=by
 unfold rQ;rw[ao,bb h];rfl
def Vj{m:Nat}{v:Int}:(rQ m f).set j (.a v)=rQ m (λx=>if x=j then v else f x):=by
 apply gU;intro i;unfold rQ;rw[i3,ao,ao]
 by_cases e:j=i
 .subst e
  by_cases b:j<m
  .rw[bb b];simp[b]
  .rw[aU rfl,aP (by simpa using b)];rw[b8 (by simpa using b)];rfl
 .rw[aP e]
  by_cases a:i<m
  .rw[bb a];simp[cV e]
  .rw[b8 (by simpa using a)];rfl
def Kc{m:Nat}{g:Nat->Int}(h:∀j,j<m->f j=g j):rQ m f=rQ m g:=by
 unfold rQ;refine dO λj b=>?_;rw[h j (bR.mp b)]
structure Tw (H0 H:Hp) (s:ay) (ad:Nat->ay) (n m:Nat) (T:Nat->Nat->Int):Prop where
 g:H0 s=none
 e:∀i,i<n->H0 (ad i)=none
 f:∀i,i<n->ad i≠s
 d:∀i j,i<n->j<n->ad i=ad j->i=j
 a:H s=ae (.a ((aH n).map λi=>V.b (ad i)))
 b:∀i,i<n->H (ad i)=ae (.a (rQ m (T i)))
 c:pj H0 H
section
variable{H0:Hp}{s:ay}{m:Nat}{T T':Nat->Nat->Int}
theorem Tw.J(t:Tw H0 H s ad n m T)(h:pj H H'):Tw H0 H' s ad n m T:=⟨t.g,t.e,t.f,t.d,h _ _ t.a,λi a=>h _ _ (t.b i a),t.c.J h⟩
def Tw.at(t:Tw H0 H s ad n m T)(h:i<n):((aH n).map λi=>V.b (ad i))[i]? =ae (.b (ad i)):=by
 rw[ao,bb h];rfl
def Tw.Z(t:Tw H0 H s ad n m T){v:Int}(h:i<n):Tw H0 (upd H (ad i) (.a ((rQ m (T i)).set j (.a v)))) s ad n m (λa b=>if a=i/\b=j then v else T a b):=by
 refine⟨t.g,t.e,t.f,t.d,by rw[AG (cV (t.f i h))];exact t.a,λa d=>?_,λb o z=>?_⟩
 .by_cases e:a=i
  .subst e;rw[AF,Vj];congr 2;refine Kc λx _=>?_
   by_cases q:x=j<;>simp[q]
  .rw[AG (λz=>e (t.d a i d h z)),t.b a d];congr 2;refine Kc λx _=>?_;simp[e]
 .rw[AG (AQ z (t.e i h))];exact t.c b o z
end
def ga(P:Nat->Nat->Int)(k n i b:Nat)(x:Nat×Nat):Int:=
 if b%2=0 then(if x.1=i then P x.1 b*P x.2 (b+1)*yW P k n x.1 x.2 else 0)else(if x.2=i then P x.1 (b-1)*P x.2 b*yW P k n x.1 x.2 else 0)
def SH(m:Nat):(aZ m [V.a 0]).flatten=rQ m λ_=>0:=by
 unfold rQ
 induction m with
 |zero=>rfl
 |succ m b=>rw[cr,b0,<-b,ki,kH];rfl
section
variable{O:pz}{Q:VK}
def To{a:ay}(M:xs.length<=sizeLine)(z:H a=ae (.a xs))(h:ay->Nat->gr->Hp->Prop)
 (l:∀D,H D=none->h D 0 [] (upd H D (.a []))) (k:∀D i d B J,H D=none->h D i d B->pf D B J->h D i d J)
 (G:∀D d b,H D=none->b D=ae (.a d)->d.length=xs.length->pj H b->h D xs.length d b->Q (.b D) b)
 (P:∀ (D:ay) (i:Nat) (x:V) (d:gr) (b:Hp) (R:V->Hp->Prop),H D=none->xs[i]? =ae x->b D=ae (.a d)->d.length=i->pj H b->h D i d b->(∀v I,pj b I->h D (i+1) (d++[v]) I->R v I)->g x (AZ own sel O) b λf S=>te f S R):BV (uA K a) own sel O g qe te Q H:=by
 refine Ed (λi=>xs.getD i .d) M h (λi b c j=>⟨_,xs[i],pq.J (j _ _ z),al c⟩) (λb j=>⟨_,pq.J (j _ _ z),am _⟩) (λi B x b c j y=>?_) l k G
  (λD i d b R T c U X j e r=>?_)
 .obtain⟨rfl,Y⟩:=y;have:=Y _ (pq.J (j _ _ z));exact⟨rfl,by rw[ag,this];rfl⟩
 .have L:xs[i]? =ae xs[i]:=al c;have Z:xs.getD i .d=xs[i]:=by rw[ag,L];rfl
  rw[Z];exact P D i xs[i] d b R T L U X j e r
end
def gp(P:Nat->Nat->Int)(k n m o i b:Nat)(x:Nat×Nat):Int:=zl (((rF n).take m).map (ga P k n i b))+(if b/2<o then ga P k n i b x else 0)
section
open PySem.SeqAt
def WK(k:Int):ai->Bool
 | .int i _=>i==k
 |_=>au
def uv:V->gr->Hp->VK->Prop:=λx vs H Q=>∃l,∃ns:hO,∃k:Int,∃j:Nat,x= .b l/\vs=[.a k]/\H l=ae (.a (ns.map V.a))/\ns[j]? =ae k/\(∀m,m<j->ns[m]? ≠ae k)/\ns.length<=1000/\Q (.a j) H
theorem MH{ns:hO}{us:List ai}(h:Vals (ns.map V.a) us):us.length=ns.length/\∀ (m:Nat) (h:m<us.length) (d:m<ns.length),∃t,us[m]= .int ns[m] t:=by
 induction ns generalizing us with
 |nil=>cases h;exact⟨rfl,λm h=>absurd h (il _)⟩
 |cons n ns i=>
  cases h with|cons r t=>
  obtain⟨a,b⟩:=i t;refine⟨by simp[a],λm h d=>?_⟩
  cases m with
  |zero=>exact r
  |succ m=>exact b m (by simpa using h) (by simpa using d)
def Sh:xQ X "list.index" uv:=by
 intro o s c H x f v g Q I S rv h;obtain⟨l,ns,k,j,rfl,rfl,T,U,B,p,q⟩:=h
 cases S
 obtain⟨u,rfl,Y⟩:=rv.Z;obtain⟨t,rfl⟩:∃t,u=fW k t:=Y;obtain⟨z,G,n,r,w,e⟩:=I.tm T;obtain⟨P,J⟩:=MH r;obtain⟨b,Z⟩:=aR.mp U;refine dJ F.slot_list_index ⟨_,e,rfl⟩ F.entry_list_index (F.args_list_index_2 _ _) (list_indexAt l _ n none #[] (.int k t) (WK k) j (by simpa[P]using b) oZ ?_ ?_) ⟨e,λy a=>?_,?_⟩
 .obtain⟨R,d⟩:=J j oZ b;rw[fS,d,Z];exact f7 k
 .intro m L M;have i:m<ns.length:=by simpa[P]using L
  obtain⟨R,d⟩:=J m oZ i;have:=B m M;rw[al i]at this;rw[fS,d];exact dq.mpr λz=>this (by rw[z])
 .obtain⟨m,L,rfl⟩:=List.getElem_of_mem (show y∈G by simpa using a);obtain⟨R,d⟩:=J m L oZ;rw[d];exact EqAt.int_int _ _ _ _
 .exact⟨.a j,H,I.Z _,⟨_,rfl⟩,q⟩
def UD{Q:VK}{l:ay}{k:Int}(b:H l=ae (.a (ns.map V.a)))(d:ns[j]? =ae k)(e:∀m,m<j->ns[m]? ≠ae k)(i:ns.length<=1000)(h:Q (.a j) H):uv (.b l) [.a k] H Q:=⟨l,ns,k,j,rfl,rfl,b,d,e,i,h⟩
end
abbrev P1(k:Nat)(a:gk):Nat->Nat->Int:=PP (a.map (pO (ones k)))
def Hh(k:Nat)(a:gk):qa (P1 k a) k 0 (a.map (pO (ones k))).length=qc k a:=by
 unfold qa qc;rw[aU (bt _),lZ,az]
def Pf(vs:gr)(k:Int)(a:gk):Prop:=vs=[.a k,tx a]/\1<=k/\k<=4/\AR k a=aw
def RP(cs:Cs):Sp:=λvs H Q E=>∃k a,Pf vs k a/\((qc k.toNat a=0/\Ref E cs.a H)\/(qc k.toNat a≠0/\
 ∀ (T p s:ay) (d:Nat->ay) (e b:Hp),pj H b->b T=ae (.b [.b p, .b s])->qV b p (a.map (pO (ones k.toNat)))->Tb e b s d (a.map (pO (ones k.toNat))).length (qa (P1 k.toNat a) k.toNat)->Q (.b T) b))
def UE(m:Nat)(f:Nat->Int):rQ m f=((aH m).map f).map V.a:=by unfold rQ;rw[dC];rfl
theorem Lp(c:Int):∀ns:hO,su (.a c) (ns.map V.a)=decide (c∈ns)
 |[]=>by simp[su]
 |n::ns=>by
  have b:=Lp c ns;rw[aY]
  by_cases e:c=n
  .subst e;simp[su,vZ]
  .unfold su at b⊢;rw[dG,b];simp[vZ,e,cV e]
section
variable{its:Array ai}{t:TA}{ι:Type}{R:XR}
def NS{h:Type}(i:Nat)(b:h->ay)(sp:h->Sp)(R:XR)(t:TA):TE:=λa H Q=>∃j:h,a[i]? =ae (ae (.b (b j)))/\t a H λvs d=>sp j vs d Q (xk R a)
def V0(i:Nat){k:Nat}{m:hE}{l:ι->ay}{sp:ι->Sp}{p pos:Pos}
 (U:∀j,∃fd,pV X.d X.w X.K X.h X.f (uB X.d X.w) k (l j) fd m (sp j)/\W.keepIn X.K (.ref (l j))=aw/\Binds X.K fd m []) (z:pM k X.A) (B:∀e y,XF X R e y->X.xe e y) (J:PA X (e::es) t)
 (L:X.N[i]? =ae x<|>n') (M:xa X.a.scope x<|>rn) (q:qq x<|>pu) (b:(x==("__classdict__":Str))=au<|>pu)
 (P:qr X e es<|>n') (d:(dN pos (aI es X.a)).any (·.1)=au<|>n'):
 PE X (.Call (.Name x p) (e::es) [] pos) (NS i l sp R t):=by
 intro c s a H Q I h;obtain⟨j,S,h⟩:=h;exact V1 i (G:=λf=>f=l j) (spOf:=λ_=>sp j) (λf T=>by subst T;exact U j) z B J L M q b P d c s a H Q I ⟨l j,S,rfl,h⟩
def Vf{k:ι->ay}{sp:ι->Sp}{O:pz}{Q:VK}(j:ι)(b:O[i]? =ae (ae (.b (k j))))(h:t O H λvs d=>sp j vs d Q (xk R O)):NS i k sp R t O H Q:=⟨j,b,h⟩
def rO.mk{a:ay}(l:K.lookup a=ae o)(c:o.cls= .type "tuple")(s:o.data= .seq its n)(r:Ih its xs=aw)(b:xs.length<=1000):rO K a xs:=⟨o,its,n,l,c,s,RN r b,J0 r⟩
end
section
variable{o:HO}{H2:Hp}{ns:List gk}{n:gk}
abbrev Kv:=List (Key×V)
def pA(a:gk):Key:= .inr ⟨a.toArray⟩
def ZN(a:gk):tx a=kV (pA a):=rfl
def Mw(h:pA a=pA b):a=b:=by
 have:=kE h;injection this with e
 simpa using cx hJ e
def uP:gk:=[97,98,99,100,101,102,103,104,105,106,107,108,109,110,111,112,113,114,115,116,117,118,119,120,121,122]
def wZ:gk:=[48,49,50,51,52,53,54,55,56,57]
structure Nm (a:gk):Prop where
 e:1<=a.length
 b:a.length<=8
 d:∀c∈a,c∈uP
def Nm.J(h:Nm a):32∉a:=λz=>absurd (h.d _ z) oY
abbrev A8:gk:=[107,105,110,100,115]
abbrev E9:gk:=[114,111,119]
abbrev Ex:gk:=[116,117,114,110]
abbrev Cm:gk:=[98,101,104,105,110,100]
abbrev D4:gk:=[100,114,111,112]
abbrev Ig:gk:=[115,104,111,119]
abbrev F3:gk:=[110,97,109,101,115]
abbrev Cd:gk:=[108,105,110,101]
abbrev Ds:gk:=[110,117,109,98,101,114]
abbrev Dj:gk:=[110,101,119]
abbrev A0:gk:=[110,97,109,101]
abbrev rP:gk:=[111,107]
abbrev sS:gk:=[110,111,110,101]
theorem Hj(c n:Nat):∀ (w r:gk),c∉w->pS c (n+1) (w++c::r)=w::pS c n r
 |[],r,_=>by show pS c (n+1) (c::r)=_;rw[pS,aU rfl]
 |x::w,r,h=>by
  show pS c (n+1) (x::(w++c::r))=_;rw[pS,aP (λz=>h (by rw[z];exact aG)),Hj c n w r λz=>h (aM _ z)]
  rfl
def LR(c n:Nat)(w:gk)(h:c∉w):pS c n w=[w]:=EX c n w h
def Np(n:Nat):32∉Ab n:=λz=>by have:=Fb n _ z;lia
def T4(c:Nat)(l:gk):pS c 0 l=[l]:=by cases l<;>rfl
theorem J1:∀ {l:hE},mF l=aw->l.Pairwise λa b=>a.cps.toList<=b.cps.toList
 |[],_=> .nil
 |x::r,h=>by
  have c:∀ (r:hE) (p:Str),risingS p r=aw->(p::r).Pairwise λa b=>a.cps.toList<=b.cps.toList:=by
   intro r
   induction r with
   |nil=>intro p _;exact .cons (λ_ h=>nomatch h) .nil
   |cons y r i=>
    intro p h;have h:(!ltCps y.cps.toList p.cps.toList&&risingS y r)=aw:=h;rw[aW,ltCps_eq]at h;have d:p.cps.toList<=y.cps.toList:=by
     have:=h.1;simp only[lS,gH]at this;exact List.not_lt.mp this
    have e:=i y h.2;refine .cons (λz hz=>?_) e;rcases aL.mp hz with rfl|hz
    .exact d
    .exact List.le_trans d ((fC.mp e).1 z hz)
  exact c r x h
theorem Me:∀ {a b:hE},(a.Pairwise λa b=>a.cps.toList<=b.cps.toList)->(b.Pairwise λa b=>a.cps.toList<=b.cps.toList)->a.Perm b->a=b
 |[],b,_,_,h=>(List.nil_perm.mp h).symm
 |x::r,[],_,_,h=>absurd h.length_eq b'
 |x::r,y::s,d,i,h=>by
  have e:x=y:=by
   have j:x∈y::s:=h.subset aG;have B:y∈x::r:=h.symm.subset aG;rcases aL.mp j with z|z
   .exact z
   rcases aL.mp B with z'|z'
   .exact z'.symm
   have G:=(fC.mp i).1 _ z;have H:=(fC.mp d).1 _ z';have:=List.le_antisymm H G
   cases x;cases y
   congr 1;simpa using this
  subst e;rw[Me (fC.mp d).2 (fC.mp i).2 h.cons_inv]
def Qh{a b c:hE}(d:mF a=aw)(e:mF b=aw)(i:a.Perm c)(j:b.Perm c):a=b:=Me (J1 d) (J1 e) (i.trans j.symm)
def FB(bad:List ay)(H d:Hp):Prop:=∀b o,H b=ae o->b∉bad->d b=ae o
def FB.J(bad:List ay)(H:Hp):FB bad H H:=λ_ _ h _=>h
def FB.of(s:pj H H1):FB bad H H1:=λc o h _=>s c o h
def FB.s(a:FB bad H H1)(b:pj H1 H2):FB bad H H2:=λc o h n=>b c o (a c o h n)
def FB.mt(a:FB bad H H1)(b:pf p H1 H2)(d:p∈bad):FB bad H H2:=λc o h n=>b c o (a c o h n) λz=>n (z▸d)
def FB.tE(a:FB bad H H1)(b:p∈bad):FB bad H (upd H1 p o):=λc d h n=>by
 have e:c≠p:=λz=>n (by rw[z];exact b);rw[AG e];exact a c d h n
def FB.new(a:FB bad H H1)(b:H p=none):FB bad H (upd H1 p o):=λc d h n=>by
 rw[AG (λz=>by rw[z,b]at h;cases h)];exact a c d h n
def FB.Z(a:FB bad H H1)(b:FB bad H1 H2):FB bad H H2:=λc o h n=>b c o (a c o h n) n
def FB.ld{k:List ay}(a:FB bad H H1)(h:∀x∈bad,x∈k):FB k H H1:=λc o e n=>a c o e λz=>n (h _ z)
def FB.free(a:FB bad H H1)(b:∀x∈bad,∃o,H x=ae o)(h:H1 p=none):H p=none\/p∈bad:=by
 cases e:H p with
 |none=>exact .inl rfl
 |some o=>
  by_cases z:p∈bad
  .exact .inr z
  .rw[a p o e z]at h;cases h
def Dk(C:ay)(H:Hp)(d r:ay)(k:Int)(ph:Kv):Prop:=(∃b,H d=ae (.c C b [("k", .a k),("rows", .b r)]))/\H r=ae (.d ph)
def Dk.J{k:Int}{ph:Kv}(h:Dk C H d r k ph)(s:pj H H'):Dk C H' d r k ph:=let⟨⟨b,e⟩,f⟩:=h;⟨⟨b,s _ _ e⟩,s _ _ f⟩
def Dk.ap{k:Int}{ph:Kv}(h:Dk C H d r k ph)(s:FB bad H H')(b:d∉bad)(i:r∉bad):Dk C H' d r k ph:=let⟨⟨j,e⟩,f⟩:=h;⟨⟨j,s _ _ e b⟩,s _ _ f i⟩
def Dk.Z{k:Int}{ph:Kv}(h:Dk C H d r k ph):d≠r:=λe=>by
 obtain⟨⟨b,z⟩,f⟩:=h;rw[e,f]at z;cases z
def Rw(k:Int)(ph:Kv):Prop:=∀e∈ph,∃n a,e=(pA n,tx a)/\Nm n/\AR k a=aw
def Rw.ld(k:Int):Rw k []:=λ_ h=>nomatch h
theorem Rw.mp{k:Int}{ph:Kv}(h:Rw k ph)(d:Nm n)(i:AR k a=aw):Rw k (putK ph (pA n) (tx a)):=λe b=>by
 cases j:AT ph (pA n)with
 |none=>
  rw[UL _ j]at b;rcases cS.mp b with z|z
  .exact h e z
  .rw[aS.mp z];exact⟨n,a,rfl,d,i⟩
 |some v=>
  have y:(ph.any λB=>decide (B.1=pA n))=aw:=by rw[EW,j];rfl
  unfold putK at b;rw[aU y]at b;obtain⟨x,G,rfl⟩:=bJ.mp b
  by_cases z:x.1=pA n
  .rw[aU z];exact⟨n,a,by rw[z],d,i⟩
  .rw[aP z];exact h x G
def Rw.ap{k:Int}{ph:Kv}{n:Key}(h:Rw k ph):Rw k (Bd ph n):=λe b=>h e (TH b)
def LH{ph:Kv}{k:Key}{v:V}(h:AT ph k=ae v):(k,v)∈ph:=by
 unfold AT at h;obtain⟨x,d,rfl⟩:=dj.mp h;have b:=mU d;have e:=List.mem_of_find?_eq_some d;have b:x.1=k:=by simpa using b
 rw[<-b];exact e
def Rw.Z{k:Int}{ph:Kv}{v:V}(h:Rw k ph)(b:AT ph (pA n)=ae v):∃a,v=tx a/\AR k a=aw:=by
 obtain⟨m,a,e,_,d⟩:=h _ (LH b);exact⟨a,cx Prod.snd e,d⟩
def CP(ns:List gk):hE:=ns.map λa=>⟨a.toArray⟩
def Fh(ns:List gk):((CP ns).map λx=>tx x.cps.toList)=ns.map tx:=by
 unfold CP;rw[dC];rfl
def MQ(h:hE):CP (h.map λx=>x.cps.toList)=h:=by
 unfold CP;rw[dC]
 conv=>rhs;rw[<-List.map_id h]
 rfl
def vA(ph:Kv)(ns:List gk):Prop:=∃ss,ph.map (·.1)=ss.map Sum.inr/\ss.length<64/\(CP ns).Perm ss/\mF (CP ns)=aw
theorem M3:∀ {a b:hE},a.map (Sum.inr:Str->Key)=b.map Sum.inr->a=b
 |[],[],_=>rfl
 |[],_::_,h=>by cases h
 |_::_,[],h=>by cases h
 |x::a,y::b,h=>by
  rw[aY,aY]at h;injection h with d e
  rw[kE d,M3 e]
def vA.Z{ph:Kv}{l k:hE}(h:vA ph ns)(m:ph.map (·.1)=l.map Sum.inr)(b:k.Perm l)(d:mF k=aw):k=CP ns:=by
 obtain⟨i,e,_,p,q⟩:=h;have:i=l:=M3 (e.symm.trans m);subst this;exact Qh d q b p
def Rw.J{k:Int}{ph:Kv}(h:Rw k ph):∃ss:hE,ph.map (·.1)=ss.map Sum.inr/\ss.length=ph.length/\∀x∈ss,Nm x.cps.toList:=by
 induction ph with
 |nil=>exact⟨[],rfl,rfl,λ_ h=>nomatch h⟩
 |cons e r d=>
  obtain⟨ss,i,j,y⟩:=d λx b=>h x (aM _ b);obtain⟨n,a,rfl,B,_⟩:=h e aG;refine⟨⟨n.toArray⟩::ss,by rw[aY,aY,i];rfl,by rw[aJ,aJ,j],λx b=>?_⟩;rcases aL.mp b with rfl|z
  .simpa using B
  .exact y x z
def vA.ap{k:Int}{ph:Kv}(h:vA ph ns)(i:Rw k ph):∀n∈ns,Nm n/\∃a,AT ph (pA n)=ae (tx a)/\AR k a=aw:=λn j=>by
 obtain⟨c,e,_,p,_⟩:=h;have x:(⟨n.toArray⟩:Str)∈c:=p.subset (bJ.mpr ⟨n,j,rfl⟩);have y:pA n∈ph.map (·.1):=by rw[e];exact bJ.mpr ⟨_,x,rfl⟩
 cases d:AT ph (pA n)with
 |none=>exact absurd y (LE d)
 |some v=>
  obtain⟨a,rfl,z⟩:=i.Z d;obtain⟨m,b,B,G,_⟩:=i _ (LH d);have:=Mw (cx Prod.fst B);exact⟨by rw[this];exact G,a,rfl,z⟩
def rK(a:gk):gk:=if a=[]then sS else a
def vF(ns:List gk):gk:=if ns=[]then sS else BQ [32] ns
inductive vL:Type
 |mk (a:_) (_:vs=[tx a]) (_:a.length<=1000) (_:Q (tx (rK a)) H)
inductive rD(cs:Cs)(C:ay):Type
 |mk (d ws r:ay) (k:Int) (ph:Kv) (n:Nat) (_:vs=[.b d, .b ws]) (_:Dk C H d r k ph) (_:H ws=ae (.a [tx (Ab n)])) (_:n<10^9) (_:((1<=n/\n<=4/\∀r' H',H r'=none->FB [d] H H'->Dk C H' d r' n []->Q (tx rP) H')\/(¬ (1<=n/\n<=4)/\Ref E cs.d H)))
inductive rV(C:ay):Type
 |mk (d ws r:ay) (k:Int) (ph:Kv) (nm one a:gk) (_:vs=[.b d, .b ws]) (_:Dk C H d r k ph) (_:1<=k) (_:k<=4) (_:ph.length<=100) (_:H ws=ae (.a [tx nm,tx one])) (_:AT ph (pA one)=ae (tx a)) (_:AR k a=aw) (_:∀H',FB [r] H H'->Dk C H' d r k (putK ph (pA nm) (tx (ub a)))->Q (tx rP) H')
inductive qZ(cs:Cs)(C:ay):Type
 |mk (d ws r:ay) (k:Int) (ph:Kv) (nm one two a b:gk) (_:vs=[.b d, .b ws]) (_:Dk C H d r k ph) (_:1<=k) (_:k<=4) (_:ph.length<=100) (_:H ws=ae (.a [tx nm,tx one,tx two])) (_:AT ph (pA one)=ae (tx a)) (_:AT ph (pA two)=ae (tx b)) (_:a.length<=40) (_:b.length<=40) (_:((AR k (a++b)=aw/\∀H',FB [r] H H'->Dk C H' d r k (putK ph (pA nm) (tx (a++b)))->Q (tx rP) H')\/(AR k (a++b)=au/\Ref E cs.e H)))
inductive rY(C:ay):Type
 |mk (d ws r:ay) (k:Int) (ph:Kv) (one:gk) (v:V) (_:vs=[.b d, .b ws]) (_:Dk C H d r k ph) (_:H ws=ae (.a [tx one])) (_:AT ph (pA one)=ae v) (_:∀H',FB [r] H H'->Dk C H' d r k (Bd ph (pA one))->Q (tx rP) H')
inductive rW(C:ay):Type
 |mk (d ws r:ay) (k:Int) (ph:Kv) (one a:gk) (_:vs=[.b d, .b ws]) (_:Dk C H d r k ph) (_:H ws=ae (.a [tx one])) (_:AT ph (pA one)=ae (tx a)) (_:a.length<=1000) (_:∀H',pj H H'->Q (tx (rK a)) H')
inductive rC(C:ay):Type
 |mk (d ws r:ay) (k:Int) (ph:Kv) (ns:List gk) (_:vs=[.b d, .b ws]) (_:Dk C H d r k ph) (_:vA ph ns) (_:(∀n∈ns,n.length<=8)) (_:∀H',pj H H'->Q (tx (vF ns)) H')
inductive vh(C:ay):Type
 |mk (d dx:_) (_:vs=[.b d]) (_:H d=ae (.c C dx [])) (_:∀r H',H r=none->FB [d] H H'->Dk C H' d r 4 []->Q .d H')
end
section
variable{R:Bool->Hp->Prop}
section
variable{O:pz}{Q:VK}{td ty:TE}
def Xd(h:ty O H λy d=>td O d λx b=>∃a o,x= .b a/\pG b a y o/\Q (.c o.isSome) b):Oy ty td O H Q:=h
def Xc(h:ty O H λy d=>td O d λx b=>∃a o,x= .b a/\pG b a y o/\Q (.c (!o.isSome)) b):MK ty td O H Q:=h
def Yn{t:TE}(h:t O H λx b=>∃c,x= .c c/\R c b):tB t O H R:=h
def ZC(h:td O H λx b=>ty O b λy d=>∃a ph k v,x= .b a/\vD P w K a ph/\y=kV k/\AT ph k=ae v/\Q v d):IK P w K td ty O H Q:=h
def ZA(h:ty O H λy b=>td O b λx d=>∃a ph k,x= .b a/\vD P w K a ph/\y=kV k/\Q (.c (!(AT ph k).isSome)) d):LJ P w K ty td O H Q:=h
end
end
section
variable{q x:ay}{cs:Cs}{d:pW}{i n:Int}{ph:Kv}{ar args fm ns:List gk}{Q:List (V×V)->Hp->Prop}{nm0 w:gk}{E:XK}
theorem IX(c:gk):∀ns:List gk,su (tx c) (ns.map tx)=decide (c∈ns)
 |[]=>rfl
 |x::ns=>by
  have b:=IX c ns;unfold su at b⊢;rw[aY,dG,b,GB]
  by_cases h:c=x
  .subst h;simp
  .rw[ba (λz=>h z.symm)];simp[h]
def U4{a:List α}(h:0<a.length):pY a 0=ae a[0]:=by
 cases a with
 |nil=>simp at h
 |cons x r=>exact Dh x r
theorem GO:∀ {ns:List gk},(∀n∈ns,n.length<=8)->ns.flatten.length<=8*ns.length
 |[],_=>by simp
 |n::r,h=>by
  have d:=h n aG;have e:=GO λx b=>h x (aM _ b);rw[cu,aN,aJ];lia
def vA.J(h:vA ph ns):ns.length=ph.length/\ns.length<64:=by
 obtain⟨a,hk,d,e,_⟩:=h;have b:=e.length_eq;have i:=cx fj hk;rw[az,az]at i;unfold CP at b;rw[az]at b;lia
abbrev DB:gk:=[9,78,111,78,97,109,101]
abbrev Tx:gk:=[9,78,111,75,105,110,100,115]
abbrev Fg:gk:=[9,78,111,76,105,110,101]
def SE:Sp:=λvs H Q _=>∃p,vs=[.b p]/\Po H p/\∀ (L:ay) (ns:List gk) (b:Hp),H L=none->Po b p->pf p H b->b L=ae (.a (ns.map tx))->(∀n∈ns,Nm n)->1<=ns.length->ns.length<=10->Q (.b L) b
def FJ(H:Hp)(st q:ay)(k:Int)(ph:Kv):Prop:=H st=ae (.d [(pA A8, .a k),(pA [107,101,112,116], .b q)])/\H q=ae (.d ph)
def y'{c:Bool}{t:TS}{O:pz}(P:pz->Hp->Prop)(d:∀a b,P a b->D.nx a b)(e:c=aw->∀N:pz->Hp->Prop,(∀a b,P a b->N a b)->t {D with nx:=N} O H)(i:c=au->P O H):if c=aw then t D O H else ud D O H:=by
 cases c with
 |true=>rw[aU rfl];exact e rfl D.nx d
 |false=>rw[aP av];exact d _ _ (i rfl)
def _root_.Lake.pf.qS(s:pf p H H')(d:Po H' p)(h:H' x=none):H x=none:=by
 cases e:H x with
 |none=>rfl
 |some o=>
  by_cases z:x=p
  .obtain⟨a,b,c,g⟩:=d;rw[z,g]at h;cases h
  .rw[s x o e z]at h;cases h
def Kb{i:Nat}{O:pz}(h:D.nx (O.set i none) H):(Fs i D).nx O H:=h
def Lw(w:gk):Prop:=w.length<=20/\∀c∈w,c∈uP
def Lw.J(h:Lw a)(g:Lw b)(d:a.length+b.length<=20):Lw (a++b):=⟨by rw[aN];exact d,λc e=>(cS.mp e).elim (h.2 c) (g.2 c)⟩
def yk:List gk:=[[110,111,110,101],[114,111,119],[110,97,109,101,115],[115,104,111,119],[116,117,114,110],[107,105,110,100,115],[100,114,111,112],[109,97,110,121]]
def y9:∀w∈yk,Lw w:=by unfold Lw;decide
def vG:List gk:=[[113,120],[113,121],[113,120,113,121],[122,122,122,122,122,122,122,122],[120]]
def zw:∀w∈vG,Lw w:=by unfold Lw;decide
def F2{k:Type}{l:List α}{x:α}(f:α->k)(h:pY l i=ae x):pY (l.map f) i=ae (f x):=by
 unfold pY at h⊢;rw[az]
 cases e:qW l.length i with
 |none=>rw[e]at h;cases h
 |some j=>
  rw[e]at h;show(l.map f)[j]? =_;rw[ao];have h:l[j]? =ae x:=h;rw[h];rfl
def Fz{l:List α}(k:0<=i)(h:i<l.length):∃x,pY l i=ae x/\x∈l:=by
 obtain⟨j,rfl⟩:∃j:Nat,i=j:=⟨i.toNat,by lia⟩;have b:j<l.length:=by lia
 exact⟨l[j],AU (al b),d2 b⟩
section
variable{Q:VK}{d:ay}{k:Int}{l:gk}{dd:Dd}
def G0(e:AR k a=aw)(i:AR k b=aw):AR k (a++b)=decide ((a++b).length<=40):=by
 by_cases h:(a++b).length<=40
 .rw[be h];exact Ea h λc j=>(cS.mp j).elim (DP e c) (DP i c)
 .rw[ba h];unfold AR;rw[ba h,m8]
end
def VF{k:Int}:putK [(pA A8,V.a k),(pA [107,101,112,116], .b q)] (pA A8) (.a n)=[(pA A8, .a n),(pA [107,101,112,116], .b q)]:=rfl
def VE{k:Int}{h:ay}:putK [(pA A8,V.a k),(pA [107,101,112,116], .b q)] (pA [107,101,112,116]) (.b h)=[(pA A8, .a k),(pA [107,101,112,116], .b h)]:=rfl
section
variable{G G':Hp}{nl d o ro st qd ls:ay}{k:Int}{kd ks:Kv}{hs:gr}
def Po.ld{u:HO}(h:Po G p)(g:G x=ae u)(i:∀a b c:Int,u≠ .a [.a a, .a b, .a c]):x≠p:=λe=>by
 obtain⟨a,b,c,z⟩:=h;rw[e,z]at g;exact i a b c (bv g).symm
end
def LY{s m l k:TE}{O:pz}(h:s O H λx b=>m O b λy d=>l O d λe i=>k O i λj z=>Q [(x,y),(e,j)] z):F5 [(s,m),(l,k)] O H Q:=h
theorem Jj:∀l:List ay,ku RelV (l.map V.b) (l.map aj)
 |[]=> .nil
 |_::l=> .cons rfl (Jj l)
def sR:List gk:=[[107,105,110,100,115],[114,111,119],[116,117,114,110],[98,101,104,105,110,100],[100,114,111,112],[115,104,111,119],[114,105,103,104,116],[109,97,121],[109,97,110,121],[110,116,104],[110,117,109,98,101,114],[115,117,114,101],[102,101,119,101,115,116],[109,111,114,101],[110,97,109,101,115]]
def VA:(sR.map λc=>(⟨c.toArray⟩:Str)).Nodup:=by decide +kernel
def PZ{w:dh}{a:ay}{t r q p n j g f Z Y v u s l k:Str}{t0 t1 t2 t3 t4 t5 t6 t7 t8 X U T O N J:Tok}{S R Q M L H E D C A I G B z y:ay}(b:K.lookup a=ae o)(ex:o.ExactDict)(d:o.data= .dict (([(t,t0,aj S),(r,t1,aj R),(q,t2,aj Q),(p,t3,aj M),(n,t4,aj L),(j,t5,aj H),(g,t6,aj E),(f,t7,aj D),(Z,t8,aj C),(Y,X,aj A),(v,U,aj I),(u,T,aj G),(s,O,aj B),(l,N,aj z),(k,J,aj y)]:List (Str×Tok×ai)).map (EC w)).toArray ep)(h:[t,r,q,p,n,j,g,f,Z,Y,v,u,s,l,k]=sR.map λc=>(⟨c.toArray⟩:Str))(m:(a==bL)=au):vD P w K a ((sR.map pA).zip [V.b S,V.b R,V.b Q,V.b M,V.b L,V.b H,V.b E,V.b D,V.b C,V.b A,V.b I,V.b G,V.b B,V.b z,V.b y]):=by
 have e:=YU (P:=P) (vs:=[V.b S,V.b R,V.b Q,V.b M,V.b L,V.b H,V.b E,V.b D,V.b C,V.b A,V.b I,V.b G,V.b B,V.b z,V.b y]) [(t,t0,aj S),(r,t1,aj R),(q,t2,aj Q),(p,t3,aj M),(n,t4,aj L),(j,t5,aj H),(g,t6,aj E),(f,t7,aj D),(Z,t8,aj C),(Y,X,aj A),(v,U,aj I),(u,T,aj G),(s,O,aj B),(l,N,aj z),(k,J,aj y)] b ex d (Jj [S,R,Q,M,L,H,E,D,C,A,I,G,B,z,y]) (by
  show [t,r,q,p,n,j,g,f,Z,Y,v,u,s,l,k].Nodup;rw[h];exact VA) m
 have i:([(t,t0,aj S),(r,t1,aj R),(q,t2,aj Q),(p,t3,aj M),(n,t4,aj L),(j,t5,aj H),(g,t6,aj E),(f,t7,aj D),(Z,t8,aj C),(Y,X,aj A),(v,U,aj I),(u,T,aj G),(s,O,aj B),(l,N,aj z),(k,J,aj y)]:List (Str×Tok×ai)).map (λx=>(.inr x.1:Key))=sR.map pA:=by
  show [t,r,q,p,n,j,g,f,Z,Y,v,u,s,l,k].map (Sum.inr:Str->Key)=_;rw[h,dC];rfl
 rw[i]at e;exact e
def qh(k:Int)(a b:gk):Bool:=AR k b&&decide (b.length=a.length)&&decide (Rt b)&&(aH a.length).all λi=>decide (a.getD i 0=63)||decide (a.getD i 0=b.getD i 0)
theorem HL{k:Nat}(l:k<=4):∀ {b a st:gk},(∀o∈st,o<k)->(∀c∈b,c∈sgn (k:Int))->b.length=a.length->(∀i,i<a.length->a.getD i 0=63\/a.getD i 0=b.getD i 0)->run (rR st) b=ae []->∃bs,b=pU bs/\uT k a st bs
 |[],[],st,_,_,_,_,h=>by
  have h:ae (rR st)=ae []:=h;have:st=[]:=kF.mp (bv h);subst this;exact⟨[],rfl,rfl⟩
 |[],_::_,_,_,_,G,_,_=>by cases G
 |_::_,[],_,_,_,G,_,_=>by cases G
 |d::b,c::a,st,j,S,G,T,h=>by
  have h:(qY (rR st) d).bind (λs=>run s b)=ae []:=h;have g:=S d aG;have H:∀c∈b,c∈sgn (k:Int):=λx y=>S x (aM _ y);have I:b.length=a.length:=by simpa using G
  have J:∀i,i<a.length->a.getD i 0=63\/a.getD i 0=b.getD i 0:=λi f=>by
   have:=T (i+1) (by simpa using f);simpa using this
  have Y:c=63\/c=d:=by simpa using T 0 b'
  rcases Wx k l d g with rfl|⟨x,y,rfl⟩
  .exfalso;have:qY (rR st) 63=none:=by
    unfold qY;rw[aP oY]
    cases st with
    |nil=>rfl
    |cons o B=>
     show(if(63:Nat)=pN.getD (2*o+1) 0 then ae (rR B)else none)=none;rw[aP λz=>Ye (2*o+1) (by have:=j o aG;lia) z.symm]
   rw[this]at h
   cases h
  .have L:pw k c x=1:=by
    rcases Y with rfl|rfl
    .exact Xo y
    .rw[ZJ y oZ (Fy oZ),aU rfl]
   obtain⟨U,X,P⟩:=IE (x/2) oZ
   by_cases M:x%2=0
   .rw[show 2*(x/2)=x by lia]at U X P;rw[FU U,X]at h;have h:run (rR (x/2::st)) b=ae []:=by
     have e:rR (x/2::st)=pN.getD (x+1) 0::rR st:=by
      show pN.getD (2*(x/2)+1) 0::rR st=_;rw[show 2*(x/2)=x by lia]
     rw[e];exact h
    obtain⟨bs,rfl,R⟩:=HL l (λo Q=>by
     rcases aL.mp Q with z|z
     .lia
     .exact j o z) H I J h
    refine⟨x::bs,rfl,y,L,by lia,?_⟩;unfold qI;rw[aU M];exact R
   .have m:2*(x/2)+1=x:=by lia
    rw[m]at P
    cases st with
    |nil=>
     exfalso;have:qY (rR []) (pN.getD x 0)=none:=by unfold qY;rw[aP P];rfl
     rw[this]at h
     cases h
    |cons o B=>
     have Q:=j o aG;have e:qY (rR (o::B)) (pN.getD x 0)=if pN.getD x 0=pN.getD (2*o+1) 0 then ae (rR B)else none:=by unfold qY;rw[aP P];rfl
     rw[e]at h
     by_cases z:pN.getD x 0=pN.getD (2*o+1) 0
     .rw[aU z]at h;have Z:x=2*o+1:=Wc x oZ _ oZ z;have h:run (rR B) b=ae []:=h;obtain⟨bs,rfl,R⟩:=HL l (λo Q=>j o (aM _ Q)) H I J h;refine⟨x::bs,rfl,y,L,λ_=>⟨B,by rw[show x/2=o by lia]⟩,?_⟩;unfold qI;rw[aP M];exact R
     .rw[aP z]at h
      cases h
def M7{k:Nat}(l:k<=4)(h:qh (k:Int) a b=aw):∃bs,b=pU bs/\Fi k a 0 [] bs:=by
 unfold qh at h;simp only[aW,bD,a',bR,ce]at h;obtain⟨⟨⟨d,i⟩,j⟩,x⟩:=h;obtain⟨bs,e,y⟩:=HL (st:=[]) l b' (Sv d) i x j;exact⟨bs,e,uT.Z (bt _) (by rw[fX];exact y)⟩
theorem Fi.mp{k:Nat}{bs:gk}(h:k<=4)(J:a.length<=40)(d:Fi k a 0 [] bs):qh (k:Int) a (pU bs)=aw:=by
 have x:=d.J;have y:(pU bs).length=bs.length:=by unfold pU;rw[az]
 have b:=d.l;rw[fX]at b;have e:Rt (pU bs):=d.ap h b';unfold qh;rw[Sw h oZ b.J,be (show(pU bs).length=a.length by lia),be e,jj,jj,jj,a'];intro i c;have c:=bR.mp c;have B:a[i]? =ae (a.getD i 0):=by rw[ag,al c];rfl
 have j:bs[i]? =ae (bs.getD i 0):=by rw[ag,al (show i<bs.length by lia)];rfl
 have G:(pU bs).getD i 0=pN.getD (bs.getD i 0) 0:=by unfold pU;rw[ag,ao,j];rfl
 obtain⟨H,I⟩:=b.at B j;rw[G,ce];rcases Xp h H I with z|z
 .exact .inl (be z)
 .exact .inr (be z)
def zF(K:aB)(k:Int)(a:gk)(H:Hp)(v:V):Prop:=(∃b,v=tx b/\b.length<=1000/\qh k a b=au)\/∃c,pQ K H v (.type c)/\c∈CJ/\c≠"str"
inductive uK(K:aB):Type
 |mk (k:Int) (a:gk) (x:V) (_:vs=[.a k,tx a,x]) (_:1<=k) (_:k<=4) (_:AR k a=aw) (_:((∃b,x=tx b/\b.length<=1000/\∀H',pj H H'->Q (.c (qh k a b)) H')\/∃ty,pQ K H x (.type ty)/\ty∈CJ/\ty≠"str"/\∀H',pj H H'->Q (.c au) H'))
def NV(K:aB)(cs:Cs):Sp:=λvs H Q E=>OJ vs H Q E\/∃b v d,vs=[b,v,d]/\(Gate K cs H E b v\/∃ (k:Int) (a:gk),b= .a k/\v=tx a/\1<=k/\k<=4/\AR k a=aw/\xN K 0 (qc k.toNat a-1) H d/\Ref E cs.c H)
def KS(K:aB)(cs:Cs):Sp:=λvs H Q E=>LQ vs H Q E\/∃b v x,vs=[b,v,x]/\(Gate K cs H E b v\/∃ (k:Int) (a:gk),b= .a k/\v=tx a/\1<=k/\k<=4/\AR k a=aw/\zF K k a H x/\Ref E cs.b H)
def HP{k:Int}{Q:VK}(d:1<=k)(e:k<=4)(i:AR k a=aw)(j:0<=n)(x:n<qc k.toNat a)(q:∀bs b,pj H b->NF k.toNat a 0 [] n bs->bs.length=a.length->Q (tx (pU bs)) b):NV K cs [.a k,tx a, .a n] H Q E:= .inl (WC d e i j x q)
def Jp{k:Int}{bs:gk}{Q:VK}(d:1<=k)(e:k<=4)(i:AR k a=aw)(j:Fi k.toNat a 0 [] bs)(q:∀b,pj H b->Q (.a (num k.toNat a 0 [] bs)) b):KS K cs [.a k,tx a,tx (pU bs)] H Q E:= .inl (Rh d e i j q)
inductive pW|e|k|g|a|j|show|d|l|i|nth|number|f|b|h|c
def pW.J:pW->gk
 | .e=>A8| .k=>E9| .g=>Ex| .a=>Cm| .j=>D4| .show=>Ig| .d=>[114,105,103,104,116]| .l=>[109,97,121]| .i=>[109,97,110,121]| .nth=>[110,116,104]| .number=>[110,117,109,98,101,114]| .f=>[115,117,114,101]| .b=>[102,101,119,101,115,116]| .h=>[109,111,114,101]| .c=>F3
def pW.Z:pW->List gk
 | .e=>[Ds]| .k=>[Dj,Cd]| .g=>[Dj,A0]| .a=>[Dj,A0,A0]| .nth=>[A0,Ds]| .number=>[A0,Cd]| .c=>[]|_=>[A0]
def pW.mp:pW->Str
 | .e=>"say_kinds"| .k=>"say_row"| .g=>"say_turn"| .a=>"say_behind"| .j=>"say_drop"| .show=>"say_show"| .d=>"say_right"| .l=>"say_may"| .i=>"say_many"| .nth=>"say_nth"| .number=>"say_number"| .f=>"say_sure"| .b=>"say_fewest"| .h=>"say_more"| .c=>"say_names"
def wA:List pW:=[.e, .k, .g, .a, .j, .show, .d, .l, .i, .nth, .number, .f, .b, .h, .c]
def pW.of(w:gk):Option pW:=wA.find? λd=>decide (d.J=w)
def Mq(d:pW):pW.of d.J=ae d:=by cases d<;>rfl
def Mr(h:pW.of w=ae d):d.J=w:=by simpa using mU h
def Tr:sR=wA.map pW.J:=rfl
def WA(h:pW.of w=none):w∉sR:=λz=>by
 rw[Tr]at z;obtain⟨d,_,rfl⟩:=bJ.mp z;rw[Mq]at h;cases h
def pW.ap(d:pW):d.Z.length<=3:=by cases d<;>decide
def Oi(P:bW)(w:dh)(K:aB)(b:ay):Prop:=∃a,vD P w K b a/\(∀d:pW,∃t,AT a (pA d.J)=ae (.b t)/\rO K t (d.Z.map tx))/\∀v,pW.of v=none->AT a (pA v)=none
def Oj(P:bW)(w:dh)(K:aB)(h:Str->Option ai)(e:ay):Prop:=∃a,vD P w K e a/\∃b:pW->ay,∀d:pW,AT a (pA d.J)=ae (.b (b d))/\h d.mp=ae (.ref (b d))
theorem Jx:∀ {ws:List gk} {vs:gr},w∉ws->AT ((ws.map pA).zip vs) (pA w)=none
 |[],vs,_=>rfl
 |_::_,[],_=>rfl
 |x::ws,v::vs,h=>by
  have b:=Jx (ws:=ws) (vs:=vs) λz=>h (aM _ z);have d:¬pA x=pA w:=λz=>h (by rw[Mw z];exact aG);unfold AT at*
  rw[aY,List.zip_cons_cons,e6];rw[ba d];exact b
def isNm(a:gk):Bool:=decide (1<=a.length/\a.length<=8)&&a.all λc=>decide (c∈uP)
def vq:isNm a=aw↔Nm a:=by
 unfold isNm;rw[aW,bD,a'];exact⟨λ⟨⟨d,e⟩,i⟩=>⟨d,e,λc b=>by simpa using i c b⟩,λh=>⟨⟨h.e,h.b⟩,λc b=>be (h.d c b)⟩⟩
def FH(a:gk):Bool:=decide (1<=a.length/\a.length<=9)&&(a.all λc=>decide (c∈wZ))&&(decide (a.length=1)|| !decide (a[0]? =ae 48))
def CC(a p:gk):Bool:=if p=Cd then aw else if p=Ds then FH a else isNm a
def Bz(l:gk):gk:=((pS 32 1 l).head?).getD []
def rl(l:gk)(fm:List gk):List gk:=if Cd∈fm then pS 32 fm.length l else pS 32 (l.length+1) l
def rL(l:gk):Option (pW×List gk):=match pW.of (Bz l)with
 |none=>none
 |some d=>if(rl l d.Z).tail.length=d.Z.length/\(((rl l d.Z).tail).zip d.Z).all (λx=>CC x.1 x.2)=aw then ae (d,(rl l d.Z).tail)else none
def Ku(l:gk):(pS 32 1 l).head?=ae (Bz l):=by
 unfold Bz
 cases e:pS 32 1 l with
 |nil=>exact absurd e (DH _ _ _)
 |cons w a=>rfl
def KC(x:Nat)(ws:List gk):(Dg x ws).head?=ae (x::(ws.head?.getD [])):=by cases ws<;>rfl
theorem IQ(c:Nat):∀ (n:Nat) (l:gk),(pS c (n+1) l).head?=(pS c 1 l).head?
 |_,[]=>by simp[pS]
 |n,x::r=>by
  rw[pS,pS]
  by_cases z:x=c
  .rw[aU z,aU z];rfl
  .rw[aP z,aP z,KC,KC,IQ c n r]
set_option tactic.hygienic true in
def LA(l:gk)(d:pW):rl l d.Z=Bz l::(rl l d.Z).tail:=by
 have h:(rl l d.Z).head?=ae (Bz l):=by
  rw[<-Ku];unfold rl
  split
  .cases d<;>first|exact IQ 32 _ l|(rename_i z;exact absurd z oY)
  .exact IQ 32 _ l
 cases e:rl l d.Z with
 |nil=>rw[e]at h;cases h
 |cons w a=>rw[e]at h;simp only[List.head?_cons,fO]at h;rw[h];rfl
theorem HI(c:Nat):∀ (n:Nat) (l:gk),∀w∈pS c n l,w.length<=l.length
 |n,[],w,h=>by
  have:w=[]:=by cases n<;>simpa[pS]using h
  rw[this];exact am _
 |0,x::r,w,h=>by
  rw[pS]at h;rw[aS.mp h];exact am _
 |n+1,x::r,w,h=>by
  rw[pS]at h
  by_cases z:x=c
  .rw[aU z]at h;rcases aL.mp h with rfl|h
   .exact bt _
   .exact gR (HI c n r w h)
  .rw[aP z]at h;have b:=HI c (n+1) r
   cases e:pS c (n+1) r with
   |nil=>exact absurd e (DH _ _ _)
   |cons d a=>
    rw[e]at h b;rcases aL.mp h with rfl|h
    .rw[aJ,aJ];exact Nat.succ_le_succ (b d aG)
    .exact gR (b w (aM _ h))
def K9{l:gk}(h:w∈rl l fm):w.length<=l.length:=by
 unfold rl at h
 split at h<;>exact HI _ _ _ _ h
set_option tactic.hygienic true in
def YG{l:gk}(h:rL l=ae (d,ar)):Bz l=d.J/\rl l d.Z=d.J::ar/\ar.length=d.Z.length/\(∀ (i:Nat) (a p:gk),ar[i]? =ae a->d.Z[i]? =ae p->CC a p=aw)/\∀a∈ar,a.length<=l.length:=by
 unfold rL at h
 cases e:pW.of (Bz l)with
 |none=>rw[e]at h;cases h
 |some b=>
  rw[e]at h;simp only at h
  split at h
  .rename_i j
   simp only[fO,lg]at h;obtain⟨rfl,rfl⟩:=h;have x:=Mr e;refine⟨x.symm,?_,j.1,λi a p y z=>?_,λa B=>?_⟩
   .rw[x];exact LA l b
   .have:=a'.mp j.2 (a,p) (jU.mpr ⟨i,by rw[List.getElem?_zip_eq_some];exact⟨y,z⟩⟩);exact this
   .exact K9 (l:=l) (fm:=b.Z) (kj B)
  .cases h
end
section
variable{ks:List (Option dH)}{values vs:List dH}{Q:VK}
def Mt(h:n<2^1900):((n:Nat):Int).natAbs.log2<1920:=by
 rw[Int.natAbs_natCast]
 by_cases z:n=0
 .subst z;decide
 .exact aQ ((oA z).mpr h) oY
def vj:gr->Hp->VK->Prop:=λb H Q=>∃n:Nat,b=[.a (n:Nat)]/\n<2^1900/\Q (tx (Ab n)) H
def Ck:pH X (.type "str") vj:=by
 rintro f s c H b d Q I rv ⟨n,e,a,q⟩;subst e;obtain⟨u,rfl,t,rfl⟩:=rv.Z;refine PySem.P.str_of_int (Mt a) ?_;rw[Hx];exact⟨tx (Ab n),H,I.Z _,⟨_,rfl⟩,q⟩
def Ox(d:TE):TE:=λa H Q=>d a H λx b=>(∃n:Nat,x= .a (n:Nat)/\n<2^1900/\Q (tx (Ab n)) b)\/∃z,x=tx z/\z.length<=10000/\Q (tx z) b
def Nj{pos:Pos}(j:PE X e te):PE X (.FormattedValue e (-1) none pos) (Ox te):=by
 intro c s a H Q I h;refine FormattedValue_plain (pB (j c s a H _ I h) λv G y=>?_);obtain⟨x,b,d,i,B⟩:=y;rcases B with⟨n,rfl,f,q⟩|⟨z,rfl,g,q⟩
 .obtain⟨t,rfl⟩:=i;refine wpAny_formatField_int (Mt f) ?_;rw[Hx];exact⟨tx (Ab n),b,d.Z _,⟨_,rfl⟩,q⟩
 .obtain⟨t,rfl⟩:=i;refine formatField_str (λJ L=>⟨tx z,b,d.Z _,⟨_,rfl⟩,q⟩) (by rw[BG,bV];lia)
def yU(d t2 e:TE):TE:=λf H Q=>d f H λx i=>∃a,x=tx a/\a.length<=10000/\t2 f i λy j=>∃b,y=tx b/\b.length<=10000/\e f j λz B=>∃c,z=tx c/\c.length<=10000/\Q (tx (a++b++c)) B
def UX{l k u:dH}{q t2 m:TE}{pos:Pos}(y:PE X l q)(z:PE X k t2)(B:PE X u m):PE X (.JoinedStr [l,k,u] pos) (yU q t2 m):=by
 intro g s f H Q I h;refine JoinedStr_many (kr (pB (y g s f H _ I h) λv G J=>?_));obtain⟨x,L,M,P,d⟩:=J;obtain⟨a,rfl,A,d⟩:=d;obtain⟨t,rfl⟩:=P;have R:(cR++⟨a.toArray⟩:Str)=⟨a.toArray⟩:=by
  show(⟨(#[]:Array Nat)++a.toArray⟩:Str)=_;simp
 show((cR++⟨a.toArray⟩:Str)).length<=sizeLine/\_;rw[R];refine⟨by rw[BG,bV];lia,kr (zz (z g G f L _ M d) λv S x T U Y e=>?_)⟩;obtain⟨b,rfl,w,e⟩:=e;obtain⟨t,rfl⟩:=Y;have l:(⟨a.toArray⟩++⟨b.toArray⟩:Str)=⟨(a++b).toArray⟩:=by
  show(⟨a.toArray++b.toArray⟩:Str)=_;simp
 show((⟨a.toArray⟩++⟨b.toArray⟩:Str)).length<=sizeLine/\_;rw[l];refine⟨by rw[BG,bV,aN];lia,kr (zz (B g S f T _ U e) λv p x Z o n i=>?_)⟩;obtain⟨c,rfl,r,i⟩:=i;obtain⟨t,rfl⟩:=n;have k:(⟨(a++b).toArray⟩++⟨c.toArray⟩:Str)=⟨(a++b++c).toArray⟩:=by
  show(⟨(a++b).toArray++c.toArray⟩:Str)=_;simp
 show((⟨(a++b).toArray⟩++⟨c.toArray⟩:Str)).length<=sizeLine/\_;rw[k];have j:(⟨(a++b++c).toArray⟩:Str).length<=sizeLine:=by rw[BG,bV,aN,aN];lia
 exact⟨j,joinParts_nil ⟨tx (a++b++c),Z,o.Z _,⟨_,rfl⟩,i⟩ j⟩
inductive uz (X:Cx):List (Option dH)->List dH->List (TE×TE)->Prop
 |b:uz X [] [] []
 |a {k v:dH} {ks:List (Option dH)} {vs:List dH} {tk tv:TE} {trs:List (TE×TE)} (hk:PE X k tk) (hv:PE X v tv) (hr:uz X ks vs trs):uz X (ae k::ks) (v::vs) ((tk,tv)::trs)
def uz.J{pos:Pos}(h:uz X ks vs trs):xM X pos ks vs trs:=by
 induction h with
 |b=>exact Vq
 |a hk b _ d=>exact UQ hk b d
def uz.Z(h:uz X ks vs trs):ks.all (·.isSome)=aw/\ks.length=vs.length:=by
 induction h with
 |b=>exact⟨rfl,rfl⟩
 |a hk d _ b=>exact⟨by rw[gM,b.1];rfl,by rw[aJ,aJ,b.2]⟩
def Le{pos:Pos}{keys:List (Option dH)}(h:uz X keys values trs)(k:keys≠[]:=by intro h;cases h)(b:keys.length<=15<|>pu):xn X (.Dict keys values pos) (OG trs):=⟨V2 h.J h.Z.1 h.Z.2 k b⟩
def Cr(b:n<2^1900)(q:Q (tx (Ab n)) H):vj [.a (n:Nat)] H Q:=⟨n,rfl,b,q⟩
def Y7{O:pz}(h:te O H λx b=>(∃n:Nat,x= .a (n:Nat)/\n<2^1900/\Q (tx (Ab n)) b)\/∃z,x=tx z/\z.length<=10000/\Q (tx z) b):Ox te O H Q:=h
def Zf{l t2 k:TE}{O:pz}(h:l O H λx d=>∃a,x=tx a/\a.length<=10000/\t2 O d λy e=>∃b,y=tx b/\b.length<=10000/\k O e λz i=>∃c,z=tx c/\c.length<=10000/\Q (tx (a++b++c)) i):yU l t2 k O H Q:=h
end
section
variable{a:ay}{t:gk}
inductive uJ:Type
 |mk (a:_) (_:vs=[tx a]) (_:a.length<=1000) (_:∀H',pj H H'->Q (.c (isNm a)) H')
inductive sZ:Type
 |mk (a:_) (_:vs=[tx a]) (_:a.length<=1000) (_:∀H',pj H H'->Q (.c (FH a)) H')
inductive tP:Type
 |mk (a p:_) (_:vs=[tx a,tx p]) (_:a.length<=1000) (_:∀H',pj H H'->Q (.c (CC a p)) H')
inductive uG(K:aB):Type
 |mk (l:gk) (t:ay) (fm:List gk) (_:vs=[tx l, .b t]) (_:rO K t (fm.map tx)) (_:fm.length<=10) (_:l.length<=1000) (_:∀p H',H p=none->pj H H'->H' p=ae (.a ((rl l fm).map tx))->Q (.b p) H')
def Pb(K:aB)(H:Hp)(v:V):Prop:=(∃l,v=tx l/\l.length<=1000/\rL l=none)\/∃a,pQ K H v (.type a)/\a∈CJ/\a≠"str"
def T7(K:aB):Sp:=λvs H Q _=>(∃l d e,vs=[tx l]/\l.length<=1000/\rL l=ae (d,e)/\∀p b,H p=none->pj H b->b p=ae (.a ((d.J::e).map tx))->Q (.b p) b)\/∃v,vs=[v]/\Pb K H v/\∀b,pj H b->Q .d b
def yn(b:Bool):gk:=if b=aw then [121,101,115]else [110,111]
inductive vI:Type
 |mk (b:_) (_:vs=[.c b]) (_:Q (tx (yn b)) H)
inductive rX(cs:Cs)(C:ay):Type
 |mk (d ws r:ay) (k:Int) (ph:Kv) (nm a:gk) (_:vs=[.b d, .b ws]) (_:Dk C H d r k ph) (_:1<=k) (_:k<=4) (_:ph.length<=100) (_:H ws=ae (.a [tx nm,tx a])) (_:a.length<=1000) (_:((AR k a=aw/\∀H',FB [r] H H'->Dk C H' d r k (putK ph (pA nm) (tx a))->Q (tx rP) H')\/(AR k a=au/\Ref E cs.e H)))
def zb(a:gk):O->gk
 |none=>sS
 |some (_,l)=>Ab (chg a l)++[32]++rK (rS l)
def y8:hO->gk
 |[]=>sS
 |x::_=>Ab x.toNat
def fm_mk8{x0 x1 X E D C A t r p u s q l k:Str}{t0 t1 t2 t3 t4 t5 t6 t7 t8 t9 n g f Z Y:Tok}{a0 a1 a2 a3 a4 a5 a6 a7 a8 a9 V U T O N:ay}(x:K.lookup a=ae o)(ex:o.ExactDict)(y:o.data= .dict (([(x0,t0,aj a0),(x1,t1,aj a1),(X,t2,aj a2),(E,t3,aj a3),(D,t4,aj a4),(C,t5,aj a5),(A,t6,aj a6),(t,t7,aj a7),(r,t8,aj a8),(p,t9,aj a9),(u,n,aj V),(s,g,aj U),(q,f,aj T),(l,Z,aj O),(k,Y,aj N)]:List (Str×Tok×ai)).map (EC w)).toArray ep)(h:[x0,x1,X,E,D,C,A,t,r,p,u,s,q,l,k]=sR.map λc=>(⟨c.toArray⟩:Str))(m:(a==bL)=au)(z:rO K a0 [tx Ds])(B:rO K a1 [tx Dj,tx Cd])(G:rO K a2 [tx Dj,tx A0])(H:rO K a3 [tx Dj,tx A0,tx A0])(I:rO K a4 [tx A0])(J:rO K a5 [tx A0])(L:rO K a6 [tx A0])(M:rO K a7 [tx A0])(Q:rO K a8 [tx A0])(R:rO K a9 [tx A0,tx Ds])(b:rO K V [tx A0,tx Cd])(d:rO K U [tx A0])(e:rO K T [tx A0])(i:rO K O [tx A0])(j:rO K N []):Oi P w K a:=⟨_,PZ x ex y h m,λdd=>by
 cases dd
 .exact⟨_,rfl,z⟩
 .exact⟨_,rfl,B⟩
 .exact⟨_,rfl,G⟩
 .exact⟨_,rfl,H⟩
 .exact⟨_,rfl,I⟩
 .exact⟨_,rfl,J⟩
 .exact⟨_,rfl,L⟩
 .exact⟨_,rfl,M⟩
 .exact⟨_,rfl,Q⟩
 .exact⟨_,rfl,R⟩
 .exact⟨_,rfl,b⟩
 .exact⟨_,rfl,d⟩
 .exact⟨_,rfl,e⟩
 .exact⟨_,rfl,i⟩
 .exact⟨_,rfl,j⟩,λv S=>Jx (WA S)⟩
def dd_mk8{x0 x1 x2 x3 x4 x5 x6 x7 x8 x9 U T O N v:Str}{t0 t1 t2 t3 t4 t5 t6 t7 t8 t9 g f Z Y V:Tok}{a0 X S E D C A t r p u s q l k:ay}(x:K.lookup a=ae o)(ex:o.ExactDict)(y:o.data= .dict (([(x0,t0,aj a0),(x1,t1,aj X),(x2,t2,aj S),(x3,t3,aj E),(x4,t4,aj D),(x5,t5,aj C),(x6,t6,aj A),(x7,t7,aj t),(x8,t8,aj r),(x9,t9,aj p),(U,g,aj u),(T,f,aj s),(O,Z,aj q),(N,Y,aj l),(v,V,aj k)]:List (Str×Tok×ai)).map (EC w)).toArray ep)(h:[x0,x1,x2,x3,x4,x5,x6,x7,x8,x9,U,T,O,N,v]=sR.map λc=>(⟨c.toArray⟩:Str))(m:(a==bL)=au)(z:mg "say_kinds"=ae (.ref a0))(B:mg "say_row"=ae (.ref X))(G:mg "say_turn"=ae (.ref S))(H:mg "say_behind"=ae (.ref E))(I:mg "say_drop"=ae (.ref D))(J:mg "say_show"=ae (.ref C))(L:mg "say_right"=ae (.ref A))(M:mg "say_may"=ae (.ref t))(Q:mg "say_many"=ae (.ref r))(R:mg "say_nth"=ae (.ref p))(b:mg "say_number"=ae (.ref u))(d:mg "say_sure"=ae (.ref s))(e:mg "say_fewest"=ae (.ref q))(i:mg "say_more"=ae (.ref l))(j:mg "say_names"=ae (.ref k)):Oj P w K mg a:=⟨_,PZ x ex y h m,(λn=>match n with| .e=>a0| .k=>X| .g=>S| .a=>E| .j=>D| .show=>C| .d=>A| .l=>t| .i=>r| .nth=>p| .number=>u| .f=>s| .b=>q| .h=>l| .c=>k),λn=>by
 cases n
 .exact⟨rfl,z⟩
 .exact⟨rfl,B⟩
 .exact⟨rfl,G⟩
 .exact⟨rfl,H⟩
 .exact⟨rfl,I⟩
 .exact⟨rfl,J⟩
 .exact⟨rfl,L⟩
 .exact⟨rfl,M⟩
 .exact⟨rfl,Q⟩
 .exact⟨rfl,R⟩
 .exact⟨rfl,b⟩
 .exact⟨rfl,d⟩
 .exact⟨rfl,e⟩
 .exact⟨rfl,i⟩
 .exact⟨rfl,j⟩⟩
def Fk{a:gk}(b:4<=n)(h:a.length<=n):(rK a).length<=n:=by
 unfold rK;split
 .exact b
 .exact h
def Mg{k:Nat}(c b:Nat):0<=(pO (ones k) c).getD b 0/\(pO (ones k) c).getD b 0<=1:=by
 have h:∀v∈pO (ones k) c,0<=v/\v<=1:=by
  unfold pO
  split
  .intro v d;obtain rfl:=e8 d;exact⟨by decide,by decide⟩
  .intro v d;obtain⟨x,_,rfl⟩:=bJ.mp d
   split
   .exact⟨by decide,by decide⟩
   .exact⟨by decide,by decide⟩
 rw[ag]
 cases e:(pO (ones k) c)[b]? with
 |none=>exact⟨by simp,by simp⟩
 |some v=>exact h v (cE e)
def Ee{k:Nat}{a:gk}(h:k<=4)(e:a.length<=40):0<=qc k a/\qc k a<=5^40:=by
 have d:∀i b,0<=PP (a.map (pO (ones k))) i b/\PP (a.map (pO (ones k))) i b<=1:=λi b=>by
  unfold PP;rw[ag (l:=a.map _),ao]
  cases a[i]? with
  |none=>exact⟨by simp,by simp⟩
  |some c=>exact Mg c b
 obtain⟨f,j⟩:=Fe (P:=PP (a.map (pO (ones k)))) (k:=k) (c:=1) oY (λi b=>(d i b).1) (λi b=>(d i b).2) a.length 0 [];refine⟨f,b9 j ?_⟩;rw[mX];exact b9 (EY oZ (by lia:((k:Int)+1)<=5) a.length).2 (Ep oY e)
def NG{k:Nat}{a:gk}(h:k<=4)(b:a.length<=40):((qc k a).toNat:Int)=qc k a/\(qc k a).toNat<2^1900:=by
 obtain⟨c,d⟩:=Ee h b;refine⟨kL c,?_⟩;have e:(qc k a).toNat<=5^40:=by
  have:((qc k a).toNat:Int)<=((5^40:Nat):Int):=by rw[kL c];exact d
  exact Int.ofNat_le.mp this
 exact dE e bg
abbrev IJ:gk:=[9,78,111,82,111,119]
abbrev Gu:gk:=[9,78,111,78,117,109,98,101,114]
abbrev Gs:gk:=[9,78,111,116,82,105,103,104,116]
abbrev Gi:gk:=[9,78,111,70,105,108,108,105,110,103]
inductive qR (cs:Cs):ay->gk->Prop
 |f:qR cs cs.h IJ
 |e:qR cs cs.g DB
 |kinds:qR cs cs.d Tx
 |d:qR cs cs.e Fg
 |b:qR cs cs.c Gu
 |c:qR cs cs.b Gs
 |a:qR cs cs.a Gi
def YT(a S:gk):qT ((a.filter λc=> !decide (c∈S)).map λc=>tx [c]) []=a.all λc=>decide (c∈S):=by
 cases e:a.filter λc=> !decide (c∈S)with
 |nil=>
  have:a.all (λc=>decide (c∈S))=aw:=by
   rw[a'];intro c b;have:=List.filter_eq_nil_iff.mp e c b;simpa using this
  rw[this];rfl
 |cons c r=>
  have:a.all (λc=>decide (c∈S))=au:=by
   rw[Bool.eq_false_iff];intro z;have b:c∈a.filter λc=> !decide (c∈S):=by rw[e];exact aG
   have d:=jV.mp b;have i:=a'.mp z c d.1;rw[i]at d;exact absurd d.2 oY
  rw[this];rfl
def Lv{a S:gk}(d:a[i]? =ae c)(b:Bool)(e:(!decide (c∈S))=b):(a.take (i+1)).filter (λc=> !decide (c∈S))=(a.take i).filter (λc=> !decide (c∈S))++(if b=aw then [c]else []):=by
 rw[cL,d,List.filter_append];show _++List.filter _ [c]=_;rw[jr,e];rfl
def Y4{c:TT}{t u:TS}{O:pz}(P:pz->Hp->Prop)(d:∀a b,P a b->D.nx a b)(e:(∀a b,P a b->D.nx a b)->EB c t u D O H):EB c t u D O H:=e d
def pf.ld{k:Hp}(s:pj H H1)(b:pf p H1 k)(h:H p=none):pj H k:=λc o z=>b c o (s c o z) (AQ z h)
def tN(t:gk):Prop:=t.length<=1000/\t.head?≠ae 9/\t≠[111,100,100]
def tN.Z(h:t.length<=1000)(b:∀c∈t,c≠9/\c≠111):tN t:=⟨h,λe=>(b 9 (jT e)).1 rfl,λe=>(b 111 (by rw[e];simp)).2 rfl⟩
def tN.ap:tN rP:=⟨by decide,by decide,by decide⟩
def tN.J:tN sS:=⟨by decide,by decide,by decide⟩
def tN.ld(h:tN t):tN (rK t):=by
 unfold rK;split
 .exact .J
 .exact h
def IH(h:n<=5^40):tN (Ab n):=by
 refine .Z (bw (DA 30 n (dE h bg)) oY) λc b=>?_;have:=Fb n c b;lia
def OB(b:Bool):tN (yn b):=by cases b<;>exact⟨by decide,by decide,by decide⟩
def OA(b:Nat):pN.getD b 0≠9/\pN.getD b 0≠111:=by
 by_cases h:b<8
 .have:∀b,b<8->pN.getD b 0≠9/\pN.getD b 0≠111:=by decide
  exact this b h
 .rw[ag,b8 (by show 8<=b;lia)];exact⟨by decide,by decide⟩
end
def pC{pos:Pos}(l:gk)(h:x=⟨l.toArray⟩<|>rc):PE X (.Constant (.str x) j pos) (tC (tx l)):=OU h
def K2{osc m:ib}{N:hE}{l:hE}{k:gk}{u:List (Str×ay)}{q:ak}{v:Hp}{s:List ay}
 (e:X.a.scope=osc) (b:(B4 X l k m u C q v s).N=N) (h:Hc (UJ m osc) N own sel scope=aw):qU (B4 X l k m u C q v s).a.scope (B4 X l k m u C q v s).N own sel scope:=by
 subst e;subst b;exact A9 h
def Dm(K:aB)(cs:Cs)(C:ay)(i:Nat):Bool:=
 W.mroIn K C (.ref cs.l)==ae aw&&W.kitOne K (.ref C) (.type "ValueError")==ae aw&&W.kitAny K (.ref C) ([cs.i,cs.k,cs.f,cs.j].map aj)==ae au&&
 ([cs.h,cs.g,cs.d,cs.e,cs.c,cs.b,cs.a].map λc=>W.kitOne K (.ref C) (.ref c))==(aH 7).map λj=>ae (j==i)
def Iu(K:aB)(cs:Cs):Bool:=(aH 7).all λi=>Dm K cs ([cs.h,cs.g,cs.d,cs.e,cs.c,cs.b,cs.a].getD i 0) i
inductive zh (K:aB) (cs:Cs) (C:ay) (nm:gk):Prop
 |mk (b1 b2 b3 b4 b5 b6 b7:Bool) (j:Nat) (wd:gk) (_:W.mroIn K C (.ref cs.l)=ae aw) (_:W.kitOne K (.ref C) (.ref cs.h)=ae b1) (_:W.kitOne K (.ref C) (.ref cs.g)=ae b2) (_:W.kitOne K (.ref C) (.ref cs.d)=ae b3) (_:W.kitOne K (.ref C) (.ref cs.e)=ae b4) (_:W.kitOne K (.ref C) (.ref cs.c)=ae b5) (_:W.kitOne K (.ref C) (.ref cs.b)=ae b6) (_:W.kitOne K (.ref C) (.ref cs.a)=ae b7) (_:W.kitAny K (.ref C) ([cs.i,cs.k,cs.f,cs.j].map aj)=ae au) (_:W.kitOne K (.ref C) (.type "ValueError")=ae aw) (_:[b1,b2,b3,b4,b5,b6,b7].count aw=1) (_:[b1,b2,b3,b4,b5,b6,b7][j]? =ae aw) (_:(∀m,m<j->[b1,b2,b3,b4,b5,b6,b7][m]? ≠ae aw)) (_:pY [tx [78,111,82,111,119],tx [78,111,78,97,109,101],tx [78,111,75,105,110,100,115],tx [78,111,76,105,110,101],tx [78,111,78,117,109,98,101,114],tx [78,111,116,82,105,103,104,116],tx [78,111,70,105,108,108,105,110,103]] (j:Int)=ae (tx wd)) (_:nm=9::wd) (_:wd.length<=10)
def K3{cs:Cs}(h:Iu K cs=aw)(j:qR cs C nm):zh K cs C nm:=by
 have k:∀i,i<7->Dm K cs ([cs.h,cs.g,cs.d,cs.e,cs.c,cs.b,cs.a].getD i 0) i=aw:=λi a=>a'.mp h i (bR.mpr a);have f:∀ (C:ay) (i:Nat) (b:gk),Dm K cs C i=aw->[0==i,1==i,2==i,3==i,4==i,5==i,6==i].count aw=1/\[0==i,1==i,2==i,3==i,4==i,5==i,6==i][i]? =ae aw/\(∀m,m<i->[0==i,1==i,2==i,3==i,4==i,5==i,6==i][m]? ≠ae aw)->pY [tx [78,111,82,111,119],tx [78,111,78,97,109,101],tx [78,111,75,105,110,100,115],tx [78,111,76,105,110,101],tx [78,111,78,117,109,98,101,114],tx [78,111,116,82,105,103,104,116],tx [78,111,70,105,108,108,105,110,103]] (i:Int)=ae (tx b)->b.length<=10->zh K cs C (9::b):=by
  intro C i b hk d x y;unfold Dm at hk;simp only[aW,bP,aY,fH,aH,mQ,mV,and_true]at hk;obtain⟨⟨⟨z,B⟩,G⟩,H,I,J,L,M,P,e⟩:=hk;exact⟨_,_,_,_,_,_,_,i,b,z,H,I,J,L,M,P,e,G,B,d.1,d.2.1,d.2.2,x,rfl,y⟩
 cases j
 .exact f _ 0 _ (k 0 oY) oY rfl oY
 .exact f _ 1 _ (k 1 oY) oY rfl oY
 .exact f _ 2 _ (k 2 oY) oY rfl oY
 .exact f _ 3 _ (k 3 oY) oY rfl oY
 .exact f _ 4 _ (k 4 oY) oY rfl oY
 .exact f _ 5 _ (k 5 oY) oY rfl oY
 .exact f _ 6 _ (k 6 oY) oY rfl oY
section
variable{a:ay}{c:ay×Str×kh}{osl:Array (Option ai)}{R:List (Str×ay)}{M:List (Str×ay×Str×kh)}{G:List (Str×V)}{P:List ai->Prop}{r:R2}{f:Str}{β:Type}{Q:VK}
def AllP{h:Type}(Q:Str->h->Prop):List (Str×h)->Prop
 |[]=>True
 |(x,b)::r=>Q x b/\AllP Q r
theorem AllP.Z{Q R:Str->β->Prop}(h:∀x b,Q x b->R x b):∀ {l:List (Str×β)},AllP Q l->AllP R l
 |[],_=>trivial
 |(_,_)::_,z=>⟨h _ _ z.1,AllP.Z h z.2⟩
theorem AllP.J{Q:Str->β->Prop}{l:List (Str×β)}(z:AllP Q l)(i:Nat){x:Str}{b:β}(e:l[i]? =ae (x,b)<|>n'):Q x b:=by
 induction l generalizing i with
 |nil=>cases e
 |cons y l f=>
  obtain⟨_,_⟩:=y;cases i with
  |zero=>cases e;exact z.1
  |succ i=>exact f z.2 i e
section
variable{P:bW}{h:dg}{q:Str}{N ps:hE}{k:Nat}{f:ay}
def yO(K:aB)(x:Str)(st:kh):Prop:=∃f fd,W.nsIn K bq x=ae (ae (.ref f))/\tZ K x x st f fd
def pJ(K:aB)(l:Str->Option ai)(x:Str)(st:kh):Prop:=∃f fd,l x=ae (.ref f)/\tZ K x x st f fd
def tG(K:aB)(q:Str)(c:ay×Str×kh):Prop:=∃f fd,Meth K c.1 c.2.1 f/\tZ K c.2.1 q c.2.2 f fd
def yQ(K:aB)(x:Str)(a:ay):Prop:=W.nsIn K bq x=ae (ae (.ref a))/\GP K a=aw
abbrev zi(K:aB)(l:Str->Option ai)(x:Str)(a:ay):Prop:=l x=ae (.ref a)/\qm K a
def xf(K:aB)(x:Str)(v:V):Prop:=∃u,W.nsIn K bq x=ae (ae u)/\RelV v u
abbrev ze(l:Str->Option ai)(x:Str)(v:V):Prop:=∃u,l x=ae u/\RelV v u
section
variable{oc:ai}{od an:Option ay}{kV doc pm cdv ct:ai}{F:List (Str×kh)}{m:Str}
def AllP.mp(i:W.nsIn K bq x=ae (ae (.ref f)))(l:K.lookup f=ae ⟨oc,od, .func (W.fnOf x x (DF st) (Bv st) (AX st) .none kV doc pm an cdv ct),osl⟩)(c:W.codeIn K cdv x=aw)(k:W.keepIn K (.ref f)=aw)(t:AllP (yO K) F):AllP (yO K) ((x,st)::F):=⟨⟨f,_,i,N0 l c k⟩,t⟩
def AllP.mt(i:W.findIn K (.ref C) m=ae (ae (.ref f)))(n:W.isFn K (.ref f)=aw)(l:K.lookup f=ae ⟨oc,od, .func (W.fnOf m q (DF st) (Bv st) (AX st) .none kV doc pm an cdv ct),osl⟩)(c:W.codeIn K cdv q=aw)(k:W.keepIn K (.ref f)=aw)(t:AllP (tG K) M):AllP (tG K) ((q,C,m,st)::M):=⟨⟨f,_,⟨i,n,k⟩,N0 l c k⟩,t⟩
def AllP.cl(i:W.nsIn K bq x=ae (ae (.ref a)))(e:GP K a=aw)(t:AllP (yQ K) R):AllP (yQ K) ((x,a)::R):=⟨⟨i,e⟩,t⟩
def AllP.tx{s:Str}{u:Tok}(i:W.nsIn K bq x=ae (ae (.str s u)))(e:s=⟨b.toArray⟩)(t:AllP (xf K) G):AllP (xf K) ((x,tx b)::G):=⟨⟨_,i,by rw[e];exact⟨_,rfl⟩⟩,t⟩
def AllP.ap{s b:Int}{u:Tok}(i:W.nsIn K bq x=ae (ae (.int s u)))(e:s=b)(t:AllP (xf K) G):AllP (xf K) ((x, .a b)::G):=⟨⟨_,i,by rw[e];exact⟨_,rfl⟩⟩,t⟩
def AllP.ld(i:W.nsIn K bq x=ae (ae (.ref a)))(t:AllP (xf K) G):AllP (xf K) ((x, .b a)::G):=⟨⟨_,i,rfl⟩,t⟩
def fnA(X:K.In h)(G:h.Ns bq mg)(z:AllP (yO K) F):AllP (pJ K mg) F:=z.Z λ_ _ ⟨f,a,i,F⟩=>⟨f,a,W.mg_of X G i,F⟩
def clA(X:K.In h)(G:h.Ns bq mg)(z:AllP (yQ K) R):AllP (zi K mg) R:=z.Z λ_ _ ⟨i,e⟩=>⟨W.mg_of X G i,WV e⟩
def glA(X:K.In h)(b:h.Ns bq mg)(z:AllP (xf K) G):AllP (ze mg) G:=z.Z λ_ _ ⟨u,i,e⟩=>⟨u,W.mg_of X b i,e⟩
end
def zu(K:aB)(l:hE):Bool:=l.all λx=>W.nsIn K bq x==ae none
def nbA{l:hE}(X:K.In h)(G:h.Ns bq mg)(z:zu K l=aw):∀x∈l,mg x=none:=λx b=>W.mg_none_of X G (bP.mp (a'.mp z x b))
def PJ(K:aB)(C:ay)(l:hE):Bool:=W.plainGet K C cR&&W.hasDictIn K C&&W.plainOver K C&&(W.findIn K (.ref C) "__setattr__"==ae (ae (.builtin "object.__setattr__")))&&W.makesIn K C&&W.keepIn K (.ref C)&&
 l.all λx=>W.findIn K (.ref C) x==ae none
structure Own (K:aB) (mg:Str->Option ai) (x:Str) (C:ay) (l:hE):Prop where
 c:mg x=ae (.ref C)
 a:sM K C
 d:W.makesIn K C=aw
 b:W.keepIn K (.ref C)=aw
 n:∀f∈l,qb K C f
def Own.Z{l:hE}(o:Own K mg x C l)(i:Nat){f:Str}(h:l[i]? =ae f<|>n'):qb K C f:=o.n f (cE h)
def Own.J{l:hE}(o:Own K mg x C l)(i:Nat){s:ay}{m:List (Str×V)}{f:Str}{v:V}{R:V->Prop}(u:H d=ae (.c C s m))(q:R v)(h:l[i]? =ae f<|>n')(e:m.lookup f=ae v<|>n'):
 ∃a j y b c,V.b d= .b a/\H a=ae (.c j y b)/\sM K j/\qb K j f/\b.lookup f=ae c/\R c:=⟨d,C,s,m,v,rfl,u,o.a,o.Z i h,e,q⟩
def ownA{l:hE}(X:K.In h)(G:h.Ns bq mg)(y:W.nsIn K bq x=ae (ae (.ref C)))(z:PJ K C l=aw):Own K mg x C l:=by
 unfold PJ at z;simp only[aW,bP,a']at z;obtain⟨⟨⟨⟨⟨⟨a,b⟩,c⟩,d⟩,e⟩,f⟩,g⟩:=z;exact⟨W.mg_of X G y,⟨a,b,c,d⟩,e,f,g⟩
def pI{sc:ib}(N:hE)(a:sc.kind= .function<|>n')(b:sc.isCoroutine=au<|>n')(c:sc.isGenerator=au<|>n')(d:N.Nodup<|>rc)(e:N.take ps.length=ps<|>n')(f:(∀x∈ps,sc.names.lookup x=ae .local\/sc.names.lookup x=ae .cell)<|>rc)(g:(∀y∈sc.names,y.2≠ .free)<|>rc):pR N ps sc:=⟨a,b,c,d,e,f,g⟩
def yq{P:List ai->Prop}(h:P []):∀us,us.length=0->P us:=λus e=>by cases us with|nil=>exact h|cons a r=>cases e
def xW{P:List ai->Prop}(h:∀a us,us.length=n->P (a::us)):∀us,us.length=n+1->P us:=λus e=>by cases us with|nil=>cases e|cons a r=>exact h a r (n5 e)
def yp{P:List ai->Prop}(h:∀a,P [a]):∀us,us.length=1->P us:=xW λa=>yq (h a)
def yo{P:List ai->Prop}(h:∀a b,P [a,b]):∀us,us.length=2->P us:=xW λa=>yp (h a)
def ym{P:List ai->Prop}(h:∀a b c,P [a,b,c]):∀us,us.length=3->P us:=xW λa=>yo (h a)
def yR{P:List ai->Prop}(h:∀a b c d,P [a,b,c,d]):∀us,us.length=4->P us:=xW λa=>ym (h a)
def Ln(ps:hE)(sp:Sp):Sp:=λvs H Q E=>vs.length=ps.length/\sp vs H Q E
def Ze{E:XK}(e:vs.length=ps.length)(h:sp vs H Q E):Ln ps sp vs H Q E:=⟨e,h⟩
abbrev qp(P:bW)(w:dh)(K:aB)(m:Str->Option ai)(base:dg)(k:Nat)(x:Str)(l:hE)(sp:Sp):Prop:=zf P w K m base k x l (Ln l sp)
abbrev Ak(P:bW)(w:dh)(K:aB)(m:Str->Option ai)(base:dg)(k:Nat)(x:Str)(l:hE)(sp:Sp):Prop:=xg P w K m base k x l (Ln l sp)
abbrev xo(P:bW)(w:dh)(K:aB)(m:Str->Option ai)(base:dg)(k:Nat)(C:ay)(x:Str)(l:hE)(sp:Sp):Prop:=yN P w K m base k C x l (Ln l sp)
abbrev Pd(P:bW)(w:dh)(K:aB)(m:Str->Option ai)(base:dg)(k:Nat)(C:ay)(x:Str)(l:hE)(sp:Sp):Prop:=xR P w K m base k C x l (Ln l sp)
abbrev yL(P:bW)(w:dh)(K:aB)(m:Str->Option ai)(base:dg)(k:Nat)(C:ay)(l:hE)(sp:Sp):Prop:=yM P w K m base k C l (Ln l sp)
def xq(x q:Str)(st:kh)(ps:hE):Prop:=∀ (a b i:ai) (j:Option ay) (d c:ai) (e:List ai),e.length=ps.length->bindArgs (W.fnOf x q (DF st) (Bv st) (AX st) .none a b i j d c) ⟨e,[]⟩=pure (ps.zip e)
def yj(P:bW)(w:dh)(K:aB)(l:Str->Option ai)(base:dg)(N:hE)(q:Str)(st:kh)(k:Nat)(sp:Sp):Prop:=
 ∀ {f:ay}{b:ai}{A:fL}{outer:List Env}{s:ak}{vs:gr}{Q:VK}{E:XK} (a:N.Nodup) (H:Hp),pM k (A.deeper (iU q (AX st) s.1.1.size f b))->sp vs H Q E->
   ∃t,rm (Cj tI P w K l base N q (AX st) f b A outer s H E).ux (Bv st) t/\t {nx:=λ_ d=>Q .d d,a:=Q} (start N vs) H
def Pi(P:bW)(w:dh)(K:aB)(l:Str->Option ai)(base:dg)(N:hE)(q:Str)(st:kh)(k:Nat)(sp:Sp):Prop:=
 ∀ {f:ay}{b:ai}{A:fL}{outer:List Env}{s:ak}{vs:gr}{Q:VK}{E:XK} (a:N.Nodup) (H:Hp),pM k (A.deeper (iU q (AX st) s.1.1.size f b))->sp vs H Q E->
   ∃t,rm (w6 P w K l base N q st f b A outer s H E) (Bv st) t/\t {nx:=λ_ d=>Q .d d,a:=Q} (start N vs) H
def pJ.u(p:pJ K mg x st)(S:pR N ps (AX st))(b:yj P w K mg base N x st k sp)
 (e:xq x x st ps<|>qg):qp P w K mg base (k+1) x ps sp:=by
 obtain⟨f,g,m,F⟩:=p;exact⟨f,g,F.Z S (λ_ _ _ _ h=>h.1) λd A a s H c Q E r h=>b S.b H r h.2,m,F.b,F.J e⟩
theorem pJ.J(p:pJ K mg x st)(S:pR N ps (AX st))(b:Pi P w K mg base N x st k sp)
 (e:xq x x st ps<|>qg):Ak P w K mg base (k+1) x ps sp:=by
 obtain⟨f,g,m,F⟩:=p;exact⟨f,g,F.y0 S (λ_ _ _ _ h=>h.1) λd A a s H c Q E r h=>b S.b H r h.2,m,F.b,F.J e⟩
def tG.u{m:Str}(p:tG K q (C,m,st))(S:pR N ps (AX st))(b:yj P w K mg base N q st k sp)
 (e:xq m q st ps<|>qg):xo P w K mg base (k+1) C m ps sp:=by
 obtain⟨f,g,m,F⟩:=p;exact⟨f,g,F.Z S (λ_ _ _ _ h=>h.1) λd A a s H c Q E r h=>b S.b H r h.2,m,F.J e⟩
theorem tG.J{m:Str}(p:tG K q (C,m,st))(S:pR N ps (AX st))(b:Pi P w K mg base N q st k sp)
 (e:xq m q st ps<|>qg):Pd P w K mg base (k+1) C m ps sp:=by
 obtain⟨f,g,m,F⟩:=p;exact⟨f,g,F.y0 S (λ_ _ _ _ h=>h.1) λd A a s H c Q E r h=>b S.b H r h.2,m,F.J e⟩
def tG.m{l:hE}(p:tG K q (C,"__init__",st))(o:Own K mg x C l)(S:pR N ps (AX st))(b:yj P w K mg base N q st k sp)
 (e:xq "__init__" q st ps<|>qg):yL P w K mg base (k+2) C ps sp:=by
 obtain⟨f,g,m,F⟩:=p;exact⟨⟨_,f,g,am _,F.Z S (λ_ _ _ _ h=>h.1) λd A a s H c Q E r h=>b S.b H r h.2,⟨o.d,m.a,m.c,o.b⟩,F.J e⟩⟩
def Zy(F:tZ K x q st f fd)(S:pR N ps (AX st))(b:yj P w K mg base N q st k sp):pV P w K mg base tI (k+1) f fd ps (Ln ps sp):=
 F.Z S (λ_ _ _ _ h=>h.1) λd A a s H c Q E r h=>b S.b H r h.2
def YF{l:ay}(p:pJ K mg "law" st)(e:mg "law"=ae (.ref l))(y:∀ (s:ak) (a b i:ai) (j:Option ay) (d c v:ai),lT s (W.fnOf "law" "law" (DF st) (Bv st) (AX st) .none a b i j d c) ⟨[v],[]⟩ [("script",v)])
 (u:∀ (base:dg) {f fd},tZ K "law" "law" st f fd->pV P w K mg base tI n f fd ["script"] sp):∃fd:ke,(∀ (s:ak) (v:ai),lT s fd ⟨[v],[]⟩ [("script",v)])/\∀base:dg,K.In base->base.Ns bq mg->pV P w K mg base tI n l fd ["script"] sp:=by
 obtain⟨f,fd,m,F⟩:=p
 cases e.symm.trans m
 have z:=F;obtain⟨H,I,a,b,i,j,d,c,B,rfl,J,G⟩:=F.a;exact⟨_,λs v=>y s a b i j d c v,λbase _ _=>u base z⟩
end
section
variable{o i a b:dH}{td ty tb:TE}{t:TA}{pos p:Pos}{op:nK}
def AO(i:Nat)(d:PE X e te)(h:X.N.Nodup<|>rt)(k:X.N[i]? =ae x<|>n')(j:Loc X.a.scope x<|>sb)(y:gZ e (ae (.Name x pos')) pos.line X.a=pure false<|>n')
 (z:X.i x=aw\/X.a.scope.names.lookup x=ae .local<|>qz):PS X (.Assign [.Name x pos'] e pos) (CN te (BK i)):=Cu h k j d y z
def Ah(i:Nat)(h:X.N.Nodup<|>rt)(k:X.N[i]? =ae x<|>n')(d:Loc X.a.scope x<|>sb)(j:X.i x=aw\/X.a.scope.names.lookup x=ae .local<|>qz):PG X (.Name x pos) (BK i):=Am h k d j
def AH(K:aB)(d:PE X a ta)(j:PE X b tb)(y:NK b<|>rr)(z:X.K=K<|>n'):PE X (.Subscript a b pos) (uc (FE K) ta tb):=ZK (Zv K z) d j y
def A6(d:X.A.units+1<iw)(j:PE X o td)(h:PE X i ty)(y:FL i<|>rr):PE X (.Subscript o i pos) (Ij td ty):=V3 d j h y
def IS(P:bW)(w:dh)(K:aB)(d:PE X o td)(h:PE X i ty)(j:FL i<|>rr)(y:X.d=P<|>n')(z:X.w=w<|>n')(B:X.K=K<|>n'):PE X (.Subscript o i pos) (IK P w K td ty):=Ua P w K d h j y z B
def BP(d:pZ X (bu op) r)(j:PE X a ta)(y:PE X b tb)(z:fi op b=au<|>ry):PE X (.Compare a [op] [b] pos) (uc r ta tb):=V4 d j y z
def AS(d:pZ X (bu op) r)(j:PE X a ta)(y:PE X b tb)(z:fi op b=au<|>ry):PT X (.Compare a [op] [b] pos) (D5 (uc r ta tb)):=Vo d j y z
def Al(K:aB)(d:X.h "len"=none)(j:PA X [e] t)(h:Gl X "len"<|>n')(y:aI [e] X.a=(au,eval e X.a)::aI [] X.a<|>n')(z:(dN pos (aI [] X.a)).any (·.1)=au<|>n')(B:X.K=K<|>n'):PE X (.Call (.Name "len" p) [e] [] pos) (xt (FD K) t):=Aj (Tc K B) h d PySem.boot_len j oY oY y z
end
def Zx{G:Prop}(k:∀R:Prop,(G->R)->R):G:=k G id
section
variable{O:pz}{R:gr->Hp->Prop}{v w c:V}{tb:TE}{tr:TA}{u a b:TS}
def Yo(h:te O H λx d=>u D (O.set i (ae x)) d):FA (CN te (BK i)) u D O H:=h
def ZH(h:te O H λx d=>D.nx (O.set i (ae x)) d):CN te (BK i) D O H:=h
def W3(e:O[i]? =ae (ae v))(f:O[j]? =ae (ae w))(h:r v w H Q):uc r (Bx i) (Bx j) O H Q:=⟨v,e,w,f,h⟩
def W4(e:O[i]? =ae (ae v))(h:r v c H Q):uc r (Bx i) (tC c) O H Q:=⟨v,e,h⟩
def Ys(e:O[i]? =ae (ae v))(h:tb O H λy d=>r v y d Q):uc r (Bx i) tb O H Q:=⟨v,e,h⟩
def W6(h:ta O H λx d=>r x c d Q):uc r ta (tC c) O H Q:=h
def ZD(e:O[i]? =ae (ae v))(h:R [v] H):CB (Bx i) rj O H R:=⟨v,e,h⟩
def Zj(e:O[i]? =ae (ae v))(h:tr O H λd x=>R (v::d) x):CB (Bx i) tr O H R:=⟨v,e,h⟩
def Zl(h:ta O H λx d=>R [x] d):CB ta rj O H R:=h
def Y3(h:te O H λx d=>∃k,x= .c k/\if k=aw then a D O d else b D O d):EB (D5 te) a b D O H:=h
end
def FM(U R:pz->Hp->Prop):Prop:=∀a H,U a H->R a H
def Pe(U R:VK):Prop:=∀v H,U v H->R v H
def wG(U B:pz->Hp->Prop)(V:VK)(G:Ends->Prop):Prop:=∀R S T,FM U R->FM B S->Pe V T->G ⟨R,T,S,R⟩
def YE{U R:pz->Hp->Prop}{O:pz}(i:FM U R)(h:U O H):R O H:=i _ _ h
section
variable{U B:pz->Hp->Prop}{V':VK}{G:Ends->Prop}{O:pz}{c:Int}{l:gk}
def Yr(h:∀R S T,FM U R->FM B S->Pe V' T->G ⟨R,T,S,R⟩):wG U B V' G:=h
def wG.J(h:wG U B V' G):G ⟨U,V',B,U⟩:=h _ _ _ (λ_ _ z=>z) (λ_ _ z=>z) λ_ _ z=>z
def HW(h:Nat->pz->Hp->Prop)(m:h 0 O H)(b:∀i O H,i<n->h i O H->wG (h (i+1)) D.nx D.a λD=>g (.a (lo+i)) O H λa d=>tb D a d)(k:∀O H,h n O H->D.nx O H):CF (uS lo n) g tb D O H:=WQ h m (λi O H c p=>(b i O H c p).J) k
def HX(h:Nat->pz->Hp->Prop)(m:h 0 O H)(b:∀i O H,i<=xs.length->h i O H->pq K H a xs)(d:∀i x O H,xs[i]? =ae x->h i O H->wG (h (i+1)) D.nx D.a λD=>g x O H λc j=>tb D c j)(k:∀O H,h xs.length O H->D.nx O H):CF (uA K a) g tb D O H:=WR h m b (λi x O H e p=>(d i x O H e p).J) k
def Ls{a:gk}(h:Nat->pz->Hp->Prop)(m:h 0 O H)(b:∀i c O H,a[i]? =ae c->h i O H->wG (h (i+1)) D.nx D.a λD=>g (tx [c]) O H λf d=>tb D f d)(k:∀O H,h a.length O H->D.nx O H):CF (tL ⟨a.toArray⟩) g tb D O H:=WP h m (λi c O H e p=>(b i c O H e p).J) k
def CU(h:Nat->pz->Hp->Prop)(m:h 0 O H)(b:∀i O H,i<n->h i O H->wG (h (i+1)) D.nx D.a λD=>g (.a (lo+i*c)) O H λa d=>tb D a d)(k:∀O H,h n O H->D.nx O H):CF (DO lo c n) g tb D O H:=Uu h m (λi O H e p=>(b i O H e p).J) k
def HE{q:pz->Hp->Prop}{k:pz->Hp->Nat}{m:Nat}(h:wG (WN q k m) D.nx D.a λD=>tb D O H):
 ∃N:pz->Hp->Prop,(∀a b,N a b->∃d,d<m/\(d=k a b/\q a b))/\tb {D with nx:=N,b:=N,c:=D.nx} O H:=U9 h.J
end
end
section
variable{H0:Hp}{B:Int}{args:List gk}{L:List gr}{e:Nat}{ads:Nat->ay}{S:Nat->Nat->Int}{x:Nat×Nat}{Q:VK}{E:XK}
inductive tO(D:pW->Sp)(K:aB)(cs:Cs)(C:ay):Type
 |mk (d r:ay) (k:Int) (ph:Kv) (v:V) (_:vs=[.b d,v]) (_:Dk C H d r k ph) (_:((Pb K H v/\Ref E cs.h H)\/∃ (l:gk) (dd:pW) (args:List gk),v=tx l/\l.length<=1000/\rL l=ae (dd,args)/\((∃ (i:Nat) (a:gk),args[i]? =ae a/\dd.Z[i]? =ae A0/\AT ph (pA a)=none/\Ref E cs.g H)\/((∀ (i:Nat) (a:gk),args[i]? =ae a->dd.Z[i]? =ae A0->(AT ph (pA a)).isSome=aw)/\∀E' ws H',(∀c,Ref E c H->Ref E' c H')->pj H H'->H ws=none->H' ws=ae (.a (args.map tx))->D dd [.b d, .b ws] H' Q E'))))
inductive ug(D:pW->Sp)(K:aB)(cs:Cs)(C:ay):Type
 |mk (d r:ay) (k:Int) (ph:Kv) (v:V) (_:vs=[.b d,v]) (_:Dk C H d r k ph) (_:∀ (Q':VK) (E':XK),(∀b H',b.length<=1000->b.head?≠ae 9->(∀G,pj H' G->Q (tx b) G)->Q' (tx b) H')->(∀c nm,qR cs c nm->(∀H',pj H H'->Q (tx nm) H')->Ref E' c H)->tO D K cs C [.b d,v] H Q' E')
section
variable{cs:Cs}{k:Int}{ph:Kv}{l:gk}
def EG(ph:Kv)(dd:pW)(h:List gk):Bool:=(h.zip dd.Z).all λx=> !decide (x.2=A0)||(AT ph (pA x.1)).isSome
def UG(h:40<b.length):AR k b=au:=by
 cases e:AR k b with
 |false=>rfl
 |true=>have:=Ai e;lia
end
def Rf(H:Hp)(vs:gr)(L:List gr):Prop:=vs.length=L.length/\∀ (m:Nat) (x:gr),L[m]? =ae x->∃T:ay,vs[m]? =ae (V.b T)/\H T=ae (.b x)
def Rf.J(h:Rf H vs L)(s:pj H H'):Rf H' vs L:=⟨h.1,λm x d=>let⟨T,a,b⟩:=h.2 m x d;⟨T,a,s _ _ b⟩⟩
def Rf.Z{a:ay}{o:HO}(h:Rf H vs L)(d:H a=ae (.a xs)):Rf (upd H a o) vs L:=⟨h.1,λm x i=>by
 obtain⟨T,e,b⟩:=h.2 m x i;exact⟨T,e,by rw[AG (qN b d (λz=>by cases z))];exact b⟩⟩
def Rf.ap{T:ay}{x:gr}(h:Rf H vs L)(b:H T=ae (.b x)):Rf H (vs++[.b T]) (L++[x]):=by
 refine⟨by simp[h.1],λi y d=>?_⟩;rw[List.getElem?_append]at d⊢;rw[h.1]
 by_cases c:i<L.length
 .rw[aU c]at d⊢;exact h.2 i y d
 .rw[aP c]at d⊢
  cases e:i-L.length with
  |zero=>rw[e]at d;cases d;exact⟨T,rfl,b⟩
  |succ n=>rw[e]at d;cases d
section
variable(S p:Nat->Nat->Int)(n:Nat)
def qE(s e:Nat)(T:Nat->Nat->Int):Nat->(Nat->Nat->Int)×Int
 |0=>(T,0)
 |r+1=>(λa b=>if a=e+1/\b=e+1+2*r then(qE s e T r).1 (e+1) (e+1+2*r)+(qE s e T r).1 s (e+1+2*r)*p s e*S (s+1) e else(qE s e T r).1 a b,(qE s e T r).2+(qE s e T r).1 s (e+1+2*r)*S (e+1) (e+1+2*r))
def tq(s:Nat)(T:Nat->Nat->Int):Nat->Nat->Nat->Int
 |0=>T
 |q+1=>λa b=>if a=s+1/\b=s+1+2*q then(qE S p s (s+1+2*q) (tq s T q) ((n+1-(s+1+2*q))/2)).1 (s+1) (s+1+2*q)+p s (s+1+2*q)*(qE S p s (s+1+2*q) (tq s T q) ((n+1-(s+1+2*q))/2)).2 else(qE S p s (s+1+2*q) (tq s T q) ((n+1-(s+1+2*q))/2)).1 a b
def ts:Nat->Nat->Nat->Int
 |0=>λa b=>if a=0/\b=n then 1 else 0
 |s+1=>tq S p n s (ts s) ((n-s)/2)
def rv(s e:Nat):Int:=S (s+1) e*(qE S p s e (tq S p n s (ts S p n s) ((e-s-1)/2)) ((n+1-e)/2)).2
def xj(x:Nat×Nat):gr:=[.a x.1, .a x.2, .a (rv S p n x.1 x.2)]
end
def U5:Int:=5^40
def sQ:Int:=8001*U5
section
variable{p:Nat->Nat->Int}(hS:∀i j,0<=S i j/\S i j<=U5)(hp:∀i j,0<=p i j/\p i j<=4)
include hS hp
theorem Iw{s:Nat}(I:s<=e){C:Int}(z:0<=B){T:Nat->Nat->Int}(h:∀a b,0<=T a b/\T a b<=C)(G:∀b,T s b<=B):∀r:Nat,(∀a b,0<=(qE S p s e T r).1 a b/\(qE S p s e T r).1 a b<=C+r*(B*U5*4))/\(∀b,(qE S p s e T r).1 s b<=B)/\0<=(qE S p s e T r).2/\(qE S p s e T r).2<=r*(B*U5*4)
 |0=>⟨λa b=>by have:=h a b;simpa[qE]using this,G,by simp[qE],by simp[qE]⟩
 |r+1=>by
  obtain⟨d,H,J,f⟩:=Iw I z h G r;have L:((r+1:Nat):Int)*(B*U5*4)=r*(B*U5*4)+B*U5*4:=by rw[j3,kM];simp
  have x:=λa b t=>bA (d s t).1 (hS a b).1;have y:=λa b t=>cH (H t) (hS a b).2 (hS a b).1 z;have P:=bA (x (s+1) e (e+1+2*r)) (hp s e).1;have Q:=cH (y (s+1) e (e+1+2*r)) (hp s e).2 (hp s e).1 (b9 (x _ _ _) (y (s+1) e (e+1+2*r)));have M:=x (e+1) (e+1+2*r) (e+1+2*r);have c:=y (e+1) (e+1+2*r) (e+1+2*r);rw[L];refine⟨λa b=>?_,λb=>?_,Int.add_nonneg J M,?_⟩
  .show 0<=(if a=e+1/\b=e+1+2*r then _ else _)/\(if a=e+1/\b=e+1+2*r then _ else _)<=_;have:=d a b;have:=d (e+1) (e+1+2*r);rw[Int.mul_right_comm]
   split<;>omega
  .show(if s=e+1/\b=e+1+2*r then _ else _)<=B;rw[aP (by omega)];exact H b
  .show(qE S p s e T r).2+_<=_;omega
theorem JC(z:n<=40){s:Nat}{T:Nat->Nat->Int}(h:∀a b,0<=T a b/\T a b<=B):∀q:Nat,(∀a b,0<=tq S p n s T q a b/\tq S p n s T q a b<=B+q*(100*(B*U5*4)))/\∀b,tq S p n s T q s b<=B
 |0=>⟨λa b=>by have:=h a b;simpa[tq]using this,λb=>(h s b).2⟩
 |q+1=>by
  have d:0<=B:=b9 (h 0 0).1 (h 0 0).2;obtain⟨G,H⟩:=JC z h q;obtain⟨x,I,y,c⟩:=Iw hS hp (s:=s) (e:=s+1+2*q) (by omega) d G H ((n+1-(s+1+2*q))/2);have J:((q+1:Nat):Int)*(100*(B*U5*4))=q*(100*(B*U5*4))+100*(B*U5*4):=by rw[j3,kM];simp
  have L:0<=B*U5*4:=bA (bA d oY) oY;have M:(((n+1-(s+1+2*q))/2:Nat):Int)*(B*U5*4)<=20*(B*U5*4):=bQ (by omega) L;have P:=bA (hp s (s+1+2*q)).1 y;have Q:=cH (hp s (s+1+2*q)).2 c y oY;rw[J];refine⟨λa b=>?_,λb=>?_⟩
  .show 0<=(if a=s+1/\b=s+1+2*q then _ else _)/\(if a=s+1/\b=s+1+2*q then _ else _)<=_;have:=x a b;have:=x (s+1) (s+1+2*q)
   split<;>omega
  .show(if s=s+1/\b=s+1+2*q then _ else _)<=B;rw[aP (by omega)];exact I b
theorem Ol(e:n<=40):∀ (s:Nat) (a b:Nat),0<=ts S p n s a b/\ts S p n s a b<=sQ^s
 |0,a,b=>by show 0<=(if a=0/\b=n then(1:Int)else 0)/\(if a=0/\b=n then(1:Int)else 0)<=1;split<;>decide
 |s+1,a,b=>by
  have d:=Ol e s;obtain⟨c,x⟩:=(JC hS hp e (s:=s) d ((n-s)/2)).1 a b;refine⟨c,b9 x ?_⟩;have y:0<=sQ^s:=b9 (d 0 0).1 (d 0 0).2;have u:sQ^s*1<=sQ^s*U5:=hX oY y;have z:(((n-s)/2:Nat):Int)*(100*(sQ^s*U5*4))<=20*(100*(sQ^s*U5*4)):=bQ (by omega) (by omega);rw[gt,show sQ^s*sQ=8001*(sQ^s*U5) by unfold sQ;rw[i4]];omega
def Ob:Int:=20*(sQ^40*U5*4)
def OY(x:n<=40){s q r:Nat}(I:e=s+1+2*q)(z:s<=40)(J:r<=20):(∀t,0<=(qE S p s e (tq S p n s (ts S p n s) q) r).1 s t/\(qE S p s e (tq S p n s (ts S p n s) q) r).1 s t<=sQ^40)/\0<=(qE S p s e (tq S p n s (ts S p n s) q) r).2/\(qE S p s e (tq S p n s (ts S p n s) q) r).2<=Ob:=by
 have d:=Ol hS hp x s;have b:=JC hS hp x (s:=s) d q;have a:sQ^s<=sQ^40:=Ep oY z;have y:0<=sQ^s:=b9 (d 0 0).1 (d 0 0).2;obtain⟨B,G,H,c⟩:=Iw hS hp (s:=s) (e:=e) (by omega) y b.1 b.2 r;refine⟨λt=>⟨(B s t).1,b9 (G t) a⟩,H,b9 c (cH (by omega) (bQ (bQ a oY) oY) (bA (bA y oY) oY) oY)⟩
theorem Zn(d:n<=40){s:Nat}(x:s<e)(y:(e-s)%2=1)(z:e<n):0<=rv S p n s e/\rv S p n s e<=U5*Ob:=by
 obtain⟨_,b,a⟩:=OY hS hp d (s:=s) (e:=e) (q:=(e-s-1)/2) (r:=(n+1-e)/2) oZ oZ oZ;exact⟨bA (hS _ _).1 b,cH (hS _ _).2 a b oY⟩
end
def II:(U5*Ob).natAbs<big:=by unfold big Ob sQ U5;decide +kernel
def Dz:(sQ^40*4).natAbs<big:=by unfold big sQ U5;decide +kernel
structure Ct (P S:Nat->Nat->Int) (k:Nat):Prop where
 s:∀i j,0<=S i j/\S i j<=U5
 p:∀i j,0<=pr P k i j/\pr P k i j<=4
def yr(k:Nat)(a:gk)(i j:Nat):Int:=if j<=a.length then qa (P1 k a) k i j else 0
def PH(k:Nat)(a:gk)(i b:Nat):0<=P1 k a i b/\P1 k a i b<=1:=by
 unfold P1 PP;rw[ag (l:=a.map _),ao]
 cases a[i]? with
 |none=>exact⟨by simp,by simp⟩
 |some c=>exact Mg c b
theorem ZV{k:Nat}(h:k<=4)(e:a.length<=40):Ct (P1 k a) (yr k a) k:=by
 have f:=λi b=>(PH k a i b).1;have d:=λi b=>(PH k a i b).2;refine⟨λi j=>?_,λi j=>⟨EQ k λp _=>bA (f _ _) (f _ _),?_⟩⟩
 .unfold yr qa
  split
  .split
   .obtain⟨x,y⟩:=Fe (k:=k) (c:=1) oY f d (j-i) i [];refine⟨x,b9 y ?_⟩;rw[mX];exact b9 (EY oZ (by lia:((k:Int)+1)<=5) _).2 (Ep oY oZ)
   .decide
  .decide
 .refine b9 (Fj (g:=λ_=>1) k λp _=>cH (d _ _) (d _ _) (f _ _) oY) ?_;rw[FW];lia
def LP:Sp:=λvs H Q _=>∃ (p s:ay) (ps:List hO) (k:Nat) (S:Nat->Nat->Int) (e:Nat->ay) (i:Hp),vs=[.b p, .b s]/\qV H p ps/\ps.length<=40/\k<=4/\(∀l∈ps,l.length=2*k/\Sm l)/\Ct (PP ps) S k/\Tb i H s e ps.length S/\
 ∀ (F:ay) (b:gr) (d:Hp),H F=none->pj H d->d F=ae (.a b)->Rf d b ((rF ps.length).map (xj S (pr (PP ps) k) ps.length))->Q (.b F) d
def RW{s:ay}{ps:List hO}{k:Nat}(e:qV H p ps)(i:ps.length<=40)(j:k<=4)(x:∀l∈ps,l.length=2*k/\Sm l)(c:Ct (PP ps) S k)(y:Tb H0 H s ads ps.length S)
 (r:∀ (F:ay) (b:gr) (d:Hp),H F=none->pj H d->d F=ae (.a b)->Rf d b ((rF ps.length).map (xj S (pr (PP ps) k) ps.length))->Q (.b F) d):LP ([.b p, .b s]++[]) H Q E:=⟨p,s,ps,k,S,ads,H0,rfl,e,i,j,x,c,y,r⟩
def bo(w:Nat->Int)(s e:Nat)(G:Nat->Nat->Int):Nat->Nat->Nat->Int
 |0=>G
 |o+1=>λi b=>if i=e/\b=2*o+1 then(if e=s/\2*o+1=2*o then bo w s e G o s (2*o)+w o else bo w s e G o e (2*o+1))+w o else if i=s/\b=2*o then bo w s e G o s (2*o)+w o else bo w s e G o i b
def bs(P r:Nat->Nat->Int)(k:Nat)(L:List (Nat×Nat)):Nat->Nat->Nat->Int
 |0=>λ_ _=>0
 |m+1=>bo (λo=>P (L.getD m (0,0)).1 (2*o)*P (L.getD m (0,0)).2 (2*o+1)*r (L.getD m (0,0)).1 (L.getD m (0,0)).2) (L.getD m (0,0)).1 (L.getD m (0,0)).2 (bs P r k L m) k
def OK:Sp:=λvs H Q _=>∃ (p s:ay) (ps:List hO) (k:Nat) (S:Nat->Nat->Int) (b:Nat->ay) (e:Hp),vs=[.b p, .b s]/\qV H p ps/\ps.length<=40/\k<=4/\(∀l∈ps,l.length=2*k/\Sm l)/\Ct (PP ps) S k/\Tb e H s b ps.length S/\
 ∀ (F:ay) (i:Nat->ay) (d:Hp),Tw H d F i ps.length (2*k) (bs (PP ps) (rv S (pr (PP ps) k) ps.length) k (rF ps.length) (rF ps.length).length)->Q (.b F) d
def Wd{s:ay}{ps:List hO}{k:Nat}(d:qV H p ps)(e:ps.length<=40)(i:k<=4)(j:∀l∈ps,l.length=2*k/\Sm l)(c:Ct (PP ps) S k)(x:Tb H0 H s ads ps.length S)
 (r:∀ (F:ay) (y:Nat->ay) (b:Hp),Tw H b F y ps.length (2*k) (bs (PP ps) (rv S (pr (PP ps) k) ps.length) k (rF ps.length) (rF ps.length).length)->Q (.b F) b):OK ([.b p, .b s]++[]) H Q E:=⟨p,s,ps,k,S,ads,H0,rfl,d,e,i,j,c,x,r⟩
def Xt(h:x∈rF n):x.1<x.2/\(x.2-x.1)%2=1/\x.2<n:=by
 unfold rF at h;obtain⟨s,b,h⟩:=mu.mp h;obtain⟨q,d,rfl⟩:=bJ.mp h;have:=bR.mp b;have:=bR.mp d
 dsimp only
 lia
def atC(k:Nat)(a:gk):Nat->Nat->Int:=bs (P1 k a) (rv (yr k a) (pr (P1 k a) k) a.length) k (rF a.length) (rF a.length).length
def EF(k:Nat)(a:gk)(i:Nat):Option Nat:=(aH (2*k)).find? λb=>decide (atC k a i b=qc k a)
def B3(k:Nat)(a:gk)(i:Nat):Option (Nat×Nat):=if a.getD i 0=63 then(EF k a i).map λb=>(i,b)else none
def By(k:Nat)(a:gk):List (Nat×Nat):=(aH a.length).filterMap (B3 k a)
def g2(x:Nat×Nat):gr:=[.a x.1,tx [pN.getD x.2 0]]
def T3(cs:Cs):Sp:=λvs H Q E=>∃k a,Pf vs k a/\((qc k.toNat a=0/\Ref E cs.a H)\/(qc k.toNat a≠0/\
 ∀ (D:ay) (vs:gr) (b:Hp),H D=none->pj H b->b D=ae (.a vs)->Rf b vs ((By k.toNat a).map g2)->Q (.b D) b))
def TB{k:Nat}{b:Nat}(h:EF k a i=ae b):atC k a i b=qc k a/\b<2*k/\∀m,m<b->atC k a i m≠qc k a:=by
 unfold EF at h;rw[List.find?_range_eq_some]at h;obtain⟨d,e,j⟩:=h;refine⟨iR d,bR.mp e,λm x z=>?_⟩;have:=j m x;rw[be z]at this
 cases this
def TC{k:Nat}(h:EF k a i=none):∀b,b<2*k->atC k a i b≠qc k a:=λb d z=>by
 unfold EF at h;rw[List.find?_eq_none]at h;exact h b (bR.mpr d) (be z)
def SD(k:Nat)(a:gk)(n:Nat):(aH (n+1)).filterMap (B3 k a)=(aH n).filterMap (B3 k a)++(B3 k a n).toList:=by
 rw[cr,j0]
 cases h:B3 k a n<;>simp[h]
inductive Dq (k:Nat) (a:gk):Nat->Int->Prop
 |a {j:Nat}:0<qa (P1 k a) k 0 j->Dq k a j 0
 |next {i j:Nat} {y:Int}:i<j->((BF (pO (ones k) (a.getD i 0))).any λn=>n !=0)=aw->0<qa (P1 k a) k (i+1) j->Dq k a i y->Dq k a j (y+1)
set_option tactic.hygienic true in
theorem Dq.J{k:Nat}{x:Int}(h:Dq k a j x):0<=x/\x<=j:=by
 induction h with
 |a _=>lia
 |next h _ _ _ b=>lia
def tM(k:Nat)(a:gk)(j:Nat)(ns:hO):Prop:=ns.Pairwise (· < ·)/\(∀x,x∈ns↔Dq k a j x)/\ns.length<=63
def SG(h:ns.Pairwise (· < ·))(g:ms.Pairwise (· < ·))(e:∀x,x∈ns↔x∈ms):ns=ms:=by
 have c:∀ {l:hO},l.Pairwise (· < ·)->l.Nodup:=fun{l} h=>lQ (λz=>by lia) h;refine List.Perm.eq_of_pairwise (le:=(· < ·)) (λa b _ _ x y=>by lia) h g ?_;exact(List.perm_ext_iff_of_nodup (c h) (c g)).mpr e
def KZ:Sp:=λvs H Q _=>∃ (d e x:ay) (k:Nat) (a:gk) (y:Hp) (z:Nat->ay) (j:Nat) (L:List hO),vs=[.b d, .b e, .b x, .a j]/\qV H d (a.map (pO (ones k)))/\Tb y H e z a.length (qa (P1 k a) k)/\qV H x L/\L.length=j/\j<=a.length/\a.length<=40/\
 (∀i l,L[i]? =ae l->tM k a i l)/\∀p ns b,H p=none->pj H b->b p=ae (iL ns)->tM k a j ns->Q (.b p) b
def RG{m sp h:ay}{k:Nat}{L:List hO}(d:qV H m (a.map (pO (ones k))))(e:Tb H0 H sp ad a.length (qa (P1 k a) k))(x:qV H h L)(y:L.length=j)(z:j<=a.length)(B:a.length<=40)
 (G:∀i l,L[i]? =ae l->tM k a i l) (q:∀p ns b,H p=none->pj H b->b p=ae (iL ns)->tM k a j ns->Q (.b p) b):KZ ([.b m, .b sp, .b h, .a j]++[]) H Q E:=⟨m,sp,h,k,a,H0,ad,j,L,rfl,d,e,x,y,z,B,G,q⟩
section
variable{k:Nat}{L:List hO}(hD:∀i l,L[i]? =ae l->tM k a i l)
include hD
set_option tactic.hygienic true in
def RH(H:L.length=j)(x:Int):(x∈(aH j).flatMap (fB k a j L)\/(x=0/\0<qa (P1 k a) k 0 j))↔Dq k a j x:=by
 have d:∀ {i},i<j->L[i]? =ae (L.getD i []):=λc=>by rw[ag,al oZ];rfl
 constructor
 .rintro(h|⟨rfl,h⟩)
  .obtain⟨i,c,b⟩:=mu.mp h;have c:=bR.mp c;unfold fB at b
   split at b
   .rename_i e
    obtain⟨y,z,rfl⟩:=bJ.mp b;exact .next c e.1 e.2 (((hD i _ (d c)).2.1 y).mp z)
   .cases b
  .exact .a h
 .intro h
  cases h with
  |a h=>exact .inr ⟨rfl,h⟩
  | @next i _ y c B G h=>
    refine .inl (List.mem_flatMap.mpr ⟨i,bR.mpr c,?_⟩);unfold fB;rw[aU ⟨B,G⟩];exact bJ.mpr ⟨y,((hD i _ (d c)).2.1 _).mpr h,rfl⟩
def M8(i:Nat):(fB k a j L i).length<=63:=by
 unfold fB
 split
 .rw[az,ag]
  cases e:L[i]? with
  |none=>simp
  |some l=>exact(hD i l e).2.2
 .simp
theorem IB:∀n,((aH n).flatMap (fB k a j L)).length<=63*n
 |0=>by simp
 |n+1=>by
  rw[cr,ir,aN,List.flatMap_singleton];have:=IB n;have:=M8 hD (j:=j) n;lia
end
def KY:Sp:=λvs H Q _=>∃ (k:Int) (a:gk),vs=[.a k,tx a]/\1<=k/\k<=4/\a.length<=40/\∀r b d L,wF H b r d L->L.length=a.length+1->(∀i l,L[i]? =ae l->tM k.toNat a i l)->Q (.b r) b
def RE{k:Int}(d:1<=k)(e:k<=4)(j:a.length<=40)(q:∀r b x L,wF H b r x L->L.length=a.length+1->(∀i l,L[i]? =ae l->tM k.toNat a i l)->Q (.b r) b):KY ([.a k,tx a]++[]) H Q E:=⟨k,a,rfl,d,e,j,q⟩
def KW:Sp:=λvs H Q _=>∃ (k:Int) (a:gk),vs=[.a k,tx a]/\1<=k/\k<=4/\AR k a=aw/\∀p ns b,H p=none->pj H b->b p=ae (iL ns)->tM k.toNat a a.length ns->Q (.b p) b
def Jv{k:Int}(d:1<=k)(e:k<=4)(i:AR k a=aw)(q:∀p ns b,H p=none->pj H b->b p=ae (iL ns)->tM k.toNat a a.length ns->Q (.b p) b):KW ([.a k,tx a]++[]) H Q E:=⟨k,a,rfl,d,e,i,q⟩
noncomputable def v7 (k:Nat) (a:gk):Bool:= @decide (∃x,Dq k a a.length x) (ji _)
def tM.J{k:Nat}(h:tM k a a.length ns):decide (0<ns.length)=v7 k a:=by
 unfold v7;refine(@hV _ _ _ (ji _)).mpr ⟨λz=>?_,λ⟨x,b⟩=>List.length_pos_of_mem ((h.2.1 x).mpr b)⟩;obtain⟨x,b⟩:=List.exists_mem_of_length_pos z;exact⟨x,(h.2.1 x).mp b⟩
def MU:Sp:=λvs H Q _=>∃ (k:Int) (a:gk),vs=[.a k,tx a]/\1<=k/\k<=4/\AR k a=aw/\∀b,pj H b->Q (.c (v7 k.toNat a)) b
def Kt{k:Int}(d:1<=k)(e:k<=4)(i:AR k a=aw)(q:∀b,pj H b->Q (.c (v7 k.toNat a)) b):MU ([.a k,tx a]++[]) H Q E:=⟨k,a,rfl,d,e,i,q⟩
def KU:Sp:=λvs H Q _=>∃ (k:Int) (a:gk),vs=[.a k,tx a]/\1<=k/\k<=4/\AR k a=aw/\∀ns b,pj H b->tM k.toNat a a.length ns->Q (wz ns) b
def Jt{k:Int}(d:1<=k)(e:k<=4)(i:AR k a=aw)(q:∀ns b,pj H b->tM k.toNat a a.length ns->Q (wz ns) b):KU ([.a k,tx a]++[]) H Q E:=⟨k,a,rfl,d,e,i,q⟩
end
end Lake
namespace PySem.SeqAt
open PySem.AutoSeq1 (wpAny_loadPart')
open MeetsSeq MeetsSeq2 MeetsSeq3 SeqRoads2
variable{e:Nat->Bool}
def Ie(items b:Array ai)(e:Nat->Bool)(j:Nat)(r:Bool):Prop:=
 (∃x y t u,items[j]? =ae (.int x t)/\b[j]? =ae (.int y u)/\e j=au/\r=decide (x<y))\/(j=items.size/\j=b.size/\r=au)
def WF(l b:ay)(items z:Array ai)(n N:Nat)(dd U:Option ay)(q X:Array (Option ai))(e:Nat->Bool)(j:Nat)(r:Bool)(Z:Ie items z e j r)(k:Nat):
 ∀i:Nat,j-i=k->i<=j->(∀m,i<=m->m<j->e m=aw)->Meets (dR.«list.__eq__.loop» ⟨[.ref l, .ref b,c7 i,c7 0],[]⟩)
  (λA R s=>s.heap.get? l=ae {cls:= .type "list",dict:=dd,data:= .seq items n,slots:=q}/\s.heap.get? b=ae {cls:= .type "list",dict:=U,data:= .seq z N,slots:=X}/\
    (∀j (M:j<items.size) (P:j<z.size),EqAt A.in1 s items[j] z[j] (e j))/\
    R (.ok (.ret (.bool r))) s):=by
 induction k with
 |zero=>
  intro i hk Y I c w A R s h;obtain⟨hp,g,d,p,D⟩:=s;obtain⟨J,L,T,h⟩:=h;have:i=j:=by lia
  subst this;rcases Z with⟨x,y,t,u,M,P,K,rfl⟩|⟨f,o,rfl⟩
  .have C:i<items.size:=(bF.mp M).1;have v:i<z.size:=(bF.mp P).1
   wp_walk using cG J,cG L
   have B:items[((i:Nat):Int).toNat]? =ae (.int x t):=by simpa using M
   have G:z[((i:Nat):Int).toNat]? =ae (.int y u):=by simpa using P
   have g1:items[i]= .int x t:=(bF.mp M).2;have V:z[i]= .int y u:=(bF.mp P).2;rw[B,G];have Q:=T i C v;rw[g1,V]at Q;refine ac (Q c w _ _ ?_);rw[K]
   wp_walk using cG J,cG L
   rw[B,G];show aO _ _ (bu .Lt (.int x t) (.int y u)>>=_) _ _ _;refine ac (PyProof.Rows.lt_int ?_);exact ah h
  .wp_walk using cG J,cG L
   rw[show items[((i:Nat):Int).toNat]? =none by simp[f]]
   wp_walk using cG J,cG L
   show R (.ok (.ret (.bool (decide (items.size<z.size))))) _;rw[ba oZ];exact h
 |succ k E=>
  intro i hk Y I c w A R s h;obtain⟨hp,g,d,p,D⟩:=s;obtain⟨J,L,T,h⟩:=h;have js:j<=items.size/\j<=z.size:=by
   rcases Z with⟨x,y,t,u,M,P,_⟩|⟨f,o,_⟩
   .exact⟨bZ (bF.mp M).1,bZ (bF.mp P).1⟩
   .exact⟨gi f,gi o⟩
  have S:i<items.size:=by lia
  have H:i<z.size:=by lia
  wp_walk using cG J,cG L
  have B:items[((i:Nat):Int).toNat]? =ae items[i]:=by simp[S]
  have G:z[((i:Nat):Int).toNat]? =ae z[i]:=by simp[H]
  have O:((i:Int)+1)=((i+1:Nat):Int):=by push_cast;rfl
  rw[B,G];refine ac (T i S H c w _ _ ?_);rw[I i (am _) oZ]
  wp_walk
  rw[O];exact⟨fh ja _,cD entry_eq_loop (by
   rw[bU ja _];exact E (i+1) oZ oZ (λm a b=>I m oZ b) c w A R _ ⟨J,L,T,h⟩)⟩
def WG(l b:ay)(items i:Array ai)(n k:Nat)(dd x:Option ay)(B y:Array (Option ai))(e:Nat->Bool)(j:Nat)(r:Bool)(I:Ie items i e j r)(z:∀m,m<j->e m=aw):
 Meets (dR.«list.__lt__» ⟨[.ref l, .ref b],[]⟩)
  (λA R s=>s.heap.get? l=ae {cls:= .type "list",dict:=dd,data:= .seq items n,slots:=B}/\s.heap.get? b=ae {cls:= .type "list",dict:=x,data:= .seq i k,slots:=y}/\
    (∀j (L:j<items.size) (M:j<i.size),EqAt A.in1 s items[j] i[j] (e j))/\
    R (.ok (.ret (.bool r))) s):=by
 intro a w A R s h;obtain⟨P,g,d,Q,c⟩:=s;obtain⟨G,H,J,h⟩:=h;have S:=AutoSeq1.sub_list_list
 wp_walk using cG G,cG H
 exact⟨fh ja _,cD entry_eq_loop (by
  rw[bU ja _];exact WF l b items i n k dd x B y e j r I _ 0 rfl (bt _) (λm _ b=>z m b) a w A R _ ⟨G,H,J,h⟩)⟩
def v3{s:ak}{l b:ay}{items items2:Array ai}{r:Bool}(L:s.heap.IsList l items)(M:s.heap.IsList b items2)(P:A.units<iw)
 (R:∀j (U:j<items.size) (X:j<items2.size),EqAt A.in1 s items[j] items2[j] (e j)) (S:Ie items items2 e j r) (z:∀m,m<j->e m=aw)
 (h:Q (.bool r) s):aO (aV prog w) A (bu .Lt (.ref l) (.ref b)) Q E s:=by
 obtain⟨⟨o,k,f,T⟩,H,I,n,c⟩:=id L;obtain⟨⟨J,B,a,G⟩,d,i,g,y⟩:=id M;simp only at I c i y;subst I c i y;show aO _ _ (richCompare .Lt (.ref l) (.ref b)) Q E s;exact richCompare_meets_room (op:= .Lt) ⟨_,H,rfl⟩ ⟨_,d,rfl⟩ F.slot_list_lt F.entry_list_lt (F.args_list_lt_2 _ _) (WG l b items items2 n g k B T G e j r S z)
  ⟨H,d,R,show eY r≠Value.notImplemented/\Q (.bool r) s from⟨(λx=>nomatch x),h⟩⟩ P
end PySem.SeqAt
namespace Lake
theorem Lj:∀ {bs cs:gk},bs.length=cs.length->∃j,((∃b c:Nat,bs[j]? =ae b/\cs[j]? =ae c/\b≠c/\decide (bs<cs)=decide (b<c))\/(j=bs.length/\decide (bs<cs)=au))/\∀m,m<j->∃x,bs[m]? =ae x/\cs[m]? =ae x
 |[],[],_=>⟨0, .inr ⟨rfl,by decide⟩,λm h=>absurd h (il m)⟩
 |b::bs,c::cs,d=>by
  by_cases e:b=c
  .subst e;have i:decide (b::bs<b::cs)=decide (bs<cs):=by rw[hV,j1];exact⟨λz=>z.elim (λz=>absurd z (ck _)) (·.2),λz=> .inr ⟨rfl,z⟩⟩
   rw[i];obtain⟨j,h,y⟩:=Lj (bs:=bs) (cs:=cs) (by simpa using d);refine⟨j+1,h.imp id λz=>⟨by rw[z.1];rfl,z.2⟩,λm B=>?_⟩
   cases m with
   |zero=>exact⟨b,rfl,rfl⟩
   |succ m=>exact y m oZ
  .refine⟨0, .inl ⟨b,c,rfl,rfl,e,?_⟩,λm h=>absurd h (il m)⟩;rw[hV,j1];exact⟨λz=>z.elim id λw=>absurd w.1 e, .inl⟩
def zq(K:aB):R2:=λx y H Q=>∃a b bs cs,x= .b a/\y= .b b/\pq K H a (nL bs)/\pq K H b (nL cs)/\bs.length=cs.length/\Q (.c (decide (bs<cs))) H
def ZM(K:aB)(L:X.A.units<iw)(M:X.K=K<|>n'):pZ X (bu .Lt) (zq K):=by
 subst M;rintro pb s N H x y v u Q I P R ⟨a,b,c,cs,d,z,w,t,C,q⟩;subst d z
 cases P
 cases R
 obtain⟨us,B,S,V⟩:=I.J w;obtain⟨ws,G,T,O⟩:=I.J t;obtain⟨j,h,U⟩:=Lj C;have J:=B.J;have Y:=G.J;rw[az]at J Y;have l:∀c:gk,(nL c).all BB=aw:=λc=>by rw[n8,a'];intro _ _;rfl
 refine SeqAt.v3 (e:=λi=>rM ((nL c).getD i .d) ((nL cs).getD i .d)) (j:=j) (r:=decide (c<cs)) S.isList T.isList L (IC B G (l _) (l _)) ?_ (λm Z=>?_) ⟨.c (decide (c<cs)),H,I,rfl,q⟩
 .rcases h with⟨m,n,k,g,h3,f⟩|⟨rfl,f⟩
  .obtain⟨u1,d,p,rfl⟩:=B.ld (i:=j) (x:= .a (m:Int)) (by rw[ao,k];rfl);obtain⟨u2,z,o,rfl⟩:=G.ld (i:=j) (x:= .a (n:Int)) (by rw[ao,g];rfl);refine .inl ⟨m,n,p,o,by simpa using d,by simpa using z,?_,by rw[f,hV];lia⟩;show rM _ _=au;rw[ag,ag,ao,ao,k,g];exact ba (by show¬ (m:Int)=(n:Int);lia)
  .exact .inr ⟨by simpa using J,by simp;lia,f⟩
 .obtain⟨x,E,D⟩:=U m Z;show rM _ _=aw;rw[ag,ag,ao,ao,E,D];exact be rfl
section
variable{d:Nat}{P:Nat->Nat->Int}{M:Nat->Nat->O}{x:Nat×Nat}{a b:O}
def Lo(d:Nat)(o:O):Prop:=∀w l,o=ae (w,l)->l.length=d/\(∀b∈l,b<8)/\0<=w/\w<=pD^d
def Lo.J(d:Nat):Lo d none:=λ_ _ h=>by cases h
def Lo.ap(h:Lo d a)(g:Lo d b):Lo d (uV a b):=by
 match a,b with
 | .none,b=>exact g
 |some (x,l), .none=>exact h
 |some (x,l),ae (y,m)=>
  show Lo d (if x=y then(if l<m then ae (x,l)else ae (y,m))else if x>y then ae (x,l)else ae (y,m))
  split<;>split<;>assumption
def Lo.ld{e f:Nat}(h:Lo d a)(g:Lo e b)(j:f=d+e):Lo f (tV a b):=by
 subst j
 match a,b with
 | .none,b=>exact Lo.J _
 |some (x,l), .none=>exact Lo.J _
 |some (x,l),ae (y,m)=>
  intro w z B
  cases B
  obtain⟨G,H,I,J⟩:=h _ _ rfl;obtain⟨L,c,i,M⟩:=g _ _ rfl;refine⟨by rw[aN,G,L],λb P=>(cS.mp P).elim (H b) (c b),bA I i,?_⟩;rw[oC];exact cH J M i (m6 oY)
def Lo.mp{f:Nat}(h:Lo 2 a)(g:Lo d b)(j:f=2+d):Lo f (vS a b):=by
 subst j
 match a,b with
 | .none,b=>exact Lo.J _
 |some (x,l), .none=>exact Lo.J _
 |some (x,l),ae (y,m)=>
  intro w z B
  cases B
  obtain⟨G,e,H,I⟩:=h _ _ rfl;obtain⟨J,c,i,L⟩:=g _ _ rfl
  match l,G with
  |[p,q],_=>
   refine⟨by simp[J];lia,λb hb=>?_,bA H i,?_⟩
   .have hb:b=p\/b∈m\/b=q:=by simpa using hb
    rcases hb with rfl|hb|rfl
    .exact e _ b'
    .exact c _ hb
    .exact e _ b'
   .rw[oC];exact cH I L i (m6 oY)
def Lo.Z{o:O}(h:Lo d o)(k:d<=40):Sz o:=λw l e=>by
 obtain⟨j,_,b,i⟩:=h w l e;exact⟨BH b (b9 i (Ep oY k)) Tu,by lia⟩
def lp(f g:Nat->Int):Nat->O
 |0=>none
 |o+1=>if 0<f (2*o)*g (2*o+1)then uV (lp f g o) (ae (f (2*o)*g (2*o+1),[2*o,2*o+1]))else lp f g o
theorem GL{g:Nat->Int}(d:∀b,0<=f b/\f b<=pD)(m:∀b,0<=g b/\g b<=pD):∀k,k<=4->Lo 2 (lp f g k)
 |0,_=>Lo.J _
 |o+1,h=>by
  have i:=GL d m o oZ;rw[lp]
  split
  .refine i.ap λw l e=>?_
   cases e
   refine⟨rfl,λb j=>?_,bA (d _).1 (m _).1,?_⟩
   .have j:b=2*o\/b=2*o+1:=by simpa using j
    lia
   .rw[gt,gt,Int.pow_zero,gV];exact cH (d _).2 (m _).2 (m _).1 oY
  .exact i
section
variable(P:Nat->Nat->Int)(k n:Nat)
def sN(s e:Nat)(h:O)(M:Nat->Nat->O):Nat->Nat->Nat->O
 |0=>M
 |r+1=>λa b=>if a=s then(if b=e+1+2*r then uV (sN s e h M r s (e+1+2*r)) (tV h (sN s e h M r (e+1) (e+1+2*r)))else sN s e h M r a b)else sN s e h M r a b
def lq(s:Nat)(M:Nat->Nat->O):Nat->Nat->Nat->O
 |0=>M
 |q+1=>sN s (s+1+2*q) (vS (lp (P s) (P (s+1+2*q)) k) (lq s M q (s+1) (s+1+2*q))) (lq s M q) ((n+1-(s+1+2*q))/2)
def Dl(s:Nat)(M:Nat->Nat->O):Nat->Nat->O:=λa b=>if a=s then(if b=s then ae (1,[])else M a b)else M a b
def ls:Nat->Nat->Nat->O
 |0=>λ_ _=>none
 |t+1=>lq P k n (n-t) (Dl (n-t) (ls t)) ((n-(n-t))/2)
def wY:O:=ls P k n (n+1) 0 n
end
def xb(M:Nat->Nat->O):Prop:=∀i j,i<=j->Lo (j-i) (M i j)
def Mv{s:Nat}(h:xb M):xb (Dl s M):=λi j d=>by
 unfold Dl
 split
 .split
  .intro w l e
   cases e
   subst i;subst j;rw[ff];exact⟨rfl,λb x=>absurd x d0,by decide,by decide⟩
  .exact h i j d
 .exact h i j d
theorem IV{s e:Nat}{k:O}(y:s<=e)(x:Lo (e+1-s) k)(h:xb M):∀r,xb (sN s e k M r)
 |0=>h
 |r+1=>λi j b=>by
  have d:=IV y x h r;show Lo (j-i) (if i=s then(if j=e+1+2*r then uV (sN s e k M r s (e+1+2*r)) (tV k (sN s e k M r (e+1) (e+1+2*r)))else sN s e k M r i j)else sN s e k M r i j)
  split
  .split
   .subst i;subst j;exact(d _ _ b).ap (x.ld (d _ _ oZ) oZ)
   .exact d i j b
  .exact d i j b
section
variable{k:Nat}(hP:∀i b,0<=P i b/\P i b<=pD)(hk:k<=4)
include hP hk
theorem Iq{s:Nat}(h:xb M):∀q,xb (lq P k n s M q)
 |0=>h
 |q+1=>by
  have d:=Iq (s:=s) h q;exact IV oZ ((GL (hP _) (hP _) k hk).mp (d _ _ oZ) oZ) d _
theorem Ip:∀t,xb (ls P k n t)
 |0=>λ_ _ _=>Lo.J _
 |t+1=>Iq hP hk (Mv (Ip t)) _
end
inductive sY:Type
 |mk (v1 v2:V) (o1 o2:O) (_:vs=[v1,v2]) (_:Bt Any H v1 o1) (_:Bt Any H v2 o2) (_:(∀w l x m,o1=ae (w,l)->o2=ae (x,m)->l.length=m.length)) (_:∀v H',pj H H'->((v=v1/\uV o1 o2=o1)\/(v=v2/\uV o1 o2=o2))->Q v H')
def T6:Sp:=λvs H Q _=>∃ (e i:ay) (x y:hO) (k:Nat),vs=[.b e, .b i]/\H e=ae (iL x)/\H i=ae (iL y)/\x.length=2*k/\y.length=2*k/\k<=4/\Sm x/\Sm y/\
 ∀v d,pj H d->Bt (λb=>H b=none) d v (lp (λb=>x.getD b 0) (λb=>y.getD b 0) k)->Q v d
def LK:Sp:=λvs H Q _=>∃ (p:ay) (ps:List hO) (k:Nat),vs=[.b p]/\qV H p ps/\ps.length<=40/\k<=4/\(∀l∈ps,l.length=2*k/\Sm l)/\
 ∀ (s r:ay) (a:gr) (d:gr) (v:V) (b:Hp),pj H b->b s=ae (.a (.b r::a))->b r=ae (.a (d++[v]))->Bt Any b v (wY (PP ps) k ps.length)->Q (.b s) b
def RO{ps:List hO}{k:Nat}{Q:VK}{E:XK}(d:qV H p ps)(e:ps.length<=40)(i:k<=4)(j:∀l∈ps,l.length=2*k/\Sm l)
 (q:∀ (s r:ay) (a:gr) (x:gr) (v:V) (b:Hp),pj H b->b s=ae (.a (.b r::a))->b r=ae (.a (x++[v]))->Bt Any b v (wY (PP ps) k ps.length)->Q (.b s) b):LK ([.b p]++[]) H Q E:=⟨p,ps,k,rfl,d,e,i,j,q⟩
def T9:Sp:=λvs H Q _=>∃ (p:ay) (ps:List hO) (k:Nat),vs=[.b p]/\qV H p ps/\ps.length<=40/\k<=4/\(∀l∈ps,l.length=2*k/\Sm l)/\
 ∀ (v:V) (b:Hp),pj H b->Ft b v (wY (PP ps) k ps.length)->Q v b
def wy(k:Nat)(a:gk):O:=wY (Pc k a) k a.length
def Wu:Sp:=λvs H Q _=>∃ (k:Int) (a:gk),vs=[.a k,tx a]/\1<=k/\k<=4/\AR k a=aw/\∀ (v:V) (b:Hp),pj H b->zH a b v (wy k.toNat a)->Q v b
def Nv{ps:List hO}{k:Nat}(h:k<=4)(b:∀l∈ps,l.length=2*k/\Sm l):Lo ps.length (wY (PP ps) k ps.length):=by
 have:=Ip (n:=ps.length) (CY λl z=>(b l z).2) h (ps.length+1) 0 ps.length (bt _);rwa[lZ]at this
def J5{k:Nat}(m:k<=4)(a:gk):∀l∈a.map (uU k),l.length=2*k/\Sm l:=λl h=>by
 obtain⟨c,_,rfl⟩:=bJ.mp h;exact⟨Vt m,Xw _ _⟩
def Fn{k:Nat}(m:k<=4){a l:gk}{w:Int}(h:wy k a=ae (w,l)):l.length=a.length/\∀b∈l,b<8:=by
 have:=Nv m (J5 m a);rw[az]at this;obtain⟨d,e,_⟩:=this w l h;exact⟨d,e⟩
structure tJ (C:ay) (H:Hp) (vs:gr) (d ws r:ay) (k:Int) (ph:Kv) (one:gk) (more:gr) (a:gk):Prop where
 vs:vs=[.b d, .b ws]
 dk:Dk C H d r k ph
 k1:1<=k
 k4:k<=4
 ws:H ws=ae (.a (tx one::more))
 val:AT ph (pA one)=ae (tx a)
 row:AR k a=aw
inductive sW(C:ay):Type
 |mk (d ws r k ph one a:_) (_:tJ C H vs d ws r k ph one [] a) (_:∀H',pj H H'->Q (tx (yn (decide (Rt a)))) H')
inductive vc(C:ay):Type
 |mk (d ws r k ph one a:_) (_:tJ C H vs d ws r k ph one [] a) (_:∀H',pj H H'->Q (tx (yn (v7 k.toNat a))) H')
inductive um(C:ay):Type
 |mk (d ws r k ph one a:_) (_:tJ C H vs d ws r k ph one [] a) (_:∀H',pj H H'->Q (tx (Ab (qc k.toNat a).toNat)) H')
inductive vb(cs:Cs)(C:ay):Type
 |mk (d ws r k ph one a n:_) (_:tJ C H vs d ws r k ph one [tx (Ab n)] a) (_:n<10^9) (_:((n:Int)<qc k.toNat a/\∀bs H',pj H H'->NF k.toNat a 0 [] n bs->bs.length=a.length->Q (tx (rK (pU bs))) H')\/(¬ (n:Int)<qc k.toNat a/\Ref E cs.c H))
inductive rZ(cs:Cs)(C:ay):Type
 |mk (d ws r k ph one a b:_) (_:tJ C H vs d ws r k ph one [tx b] a) (_:b.length<=1000) (_:(AR k b=au/\Ref E cs.e H)\/(AR k b=aw/\qh k a b=au/\Ref E cs.b H)\/(AR k b=aw/\∃bs,b=pU bs/\Fi k.toNat a 0 [] bs/\∀H',pj H H'->Q (tx (Ab (num k.toNat a 0 [] bs).toNat)) H'))
def CO(a:gk)(L:List (Nat×Nat)):gk:=L.foldl (λs x=>s.set x.1 (pN.getD x.2 0)) a
theorem DQ:∀ {L:List (Nat×Nat)} {a:gk},(CO a L).length=a.length
 |[],_=>rfl
 |x::L,a=>by
  show(CO (a.set x.1 _) L).length=_;rw[DQ,jW]
def KQ(a:gk)(L:List (Nat×Nat))(x:Nat×Nat):CO a (L++[x])=(CO a L).set x.1 (pN.getD x.2 0):=by
 unfold CO;rw[List.foldl_append];rfl
def MM{k:Nat}{a:gk}(h:x∈By k a):x.1<a.length:=by
 unfold By at h;obtain⟨i,c,e⟩:=gJ.mp h;unfold B3 at e
 split at e
 .obtain⟨b,_,rfl⟩:=dj.mp e;exact bR.mp c
 .cases e
inductive uf(cs:Cs)(C:ay):Type
 |mk (d ws r k ph one a:_) (_:tJ C H vs d ws r k ph one [] a) (_:(qc k.toNat a=0/\Ref E cs.a H)\/(qc k.toNat a≠0/\∀H',pj H H'->Q (tx (rK (CO a (By k.toNat a)))) H'))
inductive vg(C:ay):Type
 |mk (d ws r k ph one a:_) (_:tJ C H vs d ws r k ph one [] a) (_:∀H',pj H H'->Q (tx (zb a (wy k.toNat a))) H')
inductive uk(C:ay):Type
 |mk (d ws r k ph one a:_) (_:tJ C H vs d ws r k ph one [] a) (_:∀ns H',pj H H'->tM k.toNat a a.length ns->Q (tx (y8 ns)) H')
def Di(cs:Cs)(C:ay):pW->Sp
 | .e=>rD cs C| .k=>rX cs C| .g=>JG| .a=>JG| .j=>rY C| .show=>rW C| .d=>sW C| .l=>vc C| .i=>um C| .nth=>vb cs C| .number=>rZ cs C| .f=>uf cs C| .b=>vg C| .h=>uk C| .c=>JG
end
section
variable{h:dg}{q:Str}{N ps:hE}{k:Nat}
abbrev Pg(P:bW)(w:dh)(K:aB)(m:Str->Option ai)(base:dg)(k:Nat)(x:Str)(l:hE)(sp:Sp):Prop:=xS P w K m base k x l (Ln l sp)
def Z2(P:bW)(w:dh)(K:aB)(l:Str->Option ai)(base:dg)(N:hE)(q:Str)(st:kh)(k:Nat)(sp:Sp):Prop:=
 ∀ {f:ay}{b:ai}{A:fL}{outer:List Env}{s:ak}{vs:gr}{Q:VK}{E:XK} (a:N.Nodup) (H:Hp),ri k (A.deeper (iU q (AX st) s.1.1.size f b))->sp vs H Q E->
   ∃t,rm (ye P w K l base N q st f b A outer s H E) (Bv st) t/\t {nx:=λ_ d=>Q .d d,a:=Q} (start N vs) H
def pJ.Z(p:pJ K mg x st)(S:pR N ps (AX st))(e:xq x x st ps)(b:Z2 P w K mg base N x st k sp):Pg P w K mg base (k+1) x ps sp:=by
 obtain⟨f,g,m,F⟩:=p;exact⟨f,g,F.zt S (λ_ _ _ _ h=>h.1) λd A a s H c Q E r h=>b S.b H r h.2,m,F.b,F.J e⟩
end
section
variable{c:Bool}{cs:Cs}{D:pW->Sp}{P R co:Hp->Prop}{args:List gk}
inductive qi (k:Int) (a:gk) (n:Nat) (b:gk):pW->gk->Prop
 |g:qi k a n b .d (yn (decide (Rt a)))
 |l:qi k a n b .l (yn (v7 k.toNat a))
 |k:qi k a n b .i (Ab (qc k.toNat a).toNat)
 |j {bs:gk}:(n:Int)<qc k.toNat a->NF k.toNat a 0 [] n bs->bs.length=a.length->qi k a n b .nth (rK (pU bs))
 |e:¬ (n:Int)<qc k.toNat a->qi k a n b .nth Gu
 |a:AR k b=au->qi k a n b .number Fg
 |c:AR k b=aw->qh k a b=au->qi k a n b .number Gs
 |i {bs:gk}:AR k b=aw->qh k a b=aw->b=pU bs->Fi k.toNat a 0 [] bs->qi k a n b .number (Ab (num k.toNat a 0 [] bs).toNat)
 |b:qc k.toNat a=0->qi k a n b .f Gi
 |f:qc k.toNat a≠0->qi k a n b .f (rK (CO a (By k.toNat a)))
 |d:qi k a n b .b (zb a (wy k.toNat a))
 |h {ns:hO}:tM k.toNat a a.length ns->qi k a n b .h (y8 ns)
 |show:qi k a n b .show (rK a)
theorem Fi.lt{k:Nat}:∀ {bs:gk} {i:Nat} {d:gk},Fi k a i d bs->∀b∈bs,b<2*k
 |[],_,_,_,b,h=>nomatch h
 |c::bs,i,d,h,b,j=>(aL.mp j).elim (λe=>e▸h.1) (Fi.lt h.2.2.2 b)
theorem NJ:∀ {d i:gk},(∀b∈d,b<8)->(∀b∈i,b<8)->pU d=pU i->d=i
 |[],[],_,_,_=>rfl
 |[],_::_,_,_,h=>by cases h
 |_::_,[],_,_,h=>by cases h
 |x::d,y::i,z,B,h=>by
  obtain⟨G,H⟩:=nH (show pN.getD x 0::pU d=pN.getD y 0::pU i from h);have e:∀x,x<8->∀y,y<8->pN.getD x 0=pN.getD y 0->x=y:=by decide
  rw[e x (z x aG) y (B y aG) G,NJ (λb j=>z b (aM _ j)) (λb j=>B b (aM _ j)) H]
def qi.J{k:Int}{s t:gk}(L:1<=k)(M:k<=4)(z:a.length<=40)(h:qi k a n b dd s)(g:qi k a n b dd t):s=t:=by
 have hk:k.toNat<=4:=by lia
 cases h with
 |g=>cases g;rfl
 |l=>cases g;rfl
 |k=>cases g;rfl
 |«show»=>cases g;rfl
 |j c m B=>
  cases g with
  |j d l j=>rw[NF.Z hk z (B.trans j.symm) m l]
  |e d=>exact absurd c d
 |e c=>
  cases g with
  |j d l j=>exact absurd d c
  |e d=>rfl
 |a c=>
  cases g with
  |a=>rfl
  |c d=>rw[c]at d;cases d
  |i d=>rw[c]at d;cases d
 |c c f=>
  cases g with
  |a d=>rw[c]at d;cases d
  |c=>rfl
  |i _ e=>rw[f]at e;cases e
 |i c f G H=>
  cases g with
  |a d=>rw[c]at d;cases d
  |c _ e=>rw[f]at e;cases e
  |i _ _ I J=>rw[NJ (λb i=>by have:=H.lt b i;lia) (λb i=>by have:=J.lt b i;lia) (G.symm.trans I)]
 |b c=>
  cases g with
  |b=>rfl
  |f d=>exact absurd c d
 |f c=>
  cases g with
  |b d=>exact absurd d c
  |f=>rfl
 |d=>
  cases g with
  |d=>rfl
 |h o=>
  cases g with
  |h y=>rw[SG o.1 y.1 λx=>(o.2.1 x).trans (y.2.1 x).symm]
section
variable{k:Int}{ph:Kv}{l:gk}{Q:VK}{E:XK}
abbrev vw(D:pW->Sp)(K:aB)(cs:Cs)(C:ay)(d:ay)(v:V)(H:Hp)(Q:VK)(E:XK):Prop:=ug D K cs C ([.b d,v]++[]) H Q E
def w5(h:Dk C H d r k ph)(m:rL l=ae (dd,args))(I:l.length<=1000)(j:EG ph dd args=aw)
 (q:∀ (x:VK) (y:XK) ws e,pj H e->Dk C e d r k ph->e ws=ae (.a (args.map tx))->H ws=none->(∀b G,tN b->(∀B,pj G B->Q (tx b) B)->x (tx b) G)->(∀c nm,qR cs c nm->(∀G,pj H G->Q (tx nm) G)->Ref y c e)->D dd [.b d, .b ws] e x y):vw D K cs C d (tx l) H Q E:=
 ⟨d,r,k,ph,_,rfl,h,λx y J L=>⟨d,r,k,ph,_,rfl,h, .inr ⟨l,dd,args,rfl,I,m, .inr ⟨λi b M P=>by
   have:=a'.mp j (b,A0) (jU.mpr ⟨i,List.getElem?_zip_eq_some.mpr ⟨M,P⟩⟩);simpa using this,λR ws e S f T z=>q x R ws e f (h.J f) z T (λb G j a=>J b G j.1 j.2.1 a) λc nm U a=>S c (L c nm U a)⟩⟩⟩⟩
def uW(nm:gk)(n:Nat)(b:gk):pW->List gk
 | .nth=>[nm,Ab n]| .number=>[nm,b]|_=>[nm]
def q7:pW->Bool
 | .d=>aw| .l=>aw| .i=>aw| .nth=>aw| .number=>aw| .f=>aw| .b=>aw| .h=>aw| .show=>aw|_=>au
def JH(b:k<=4){c:Nat}(h:c∈sgn k):c∈sgn 4:=by
 have:k<=0\/k=1\/k=2\/k=3\/k=4:=by lia
 rcases this with z|rfl|rfl|rfl|rfl
 .unfold sgn at h;rw[show k.toNat=0 by lia]at h;simp only[fw,mS]at h;rw[aS.mp h];decide
 .have:∀c∈sgn 1,c∈sgn 4:=by decide
  exact this c h
 .have:∀c∈sgn 2,c∈sgn 4:=by decide
  exact this c h
 .have:∀c∈sgn 3,c∈sgn 4:=by decide
  exact this c h
 .exact h
def Wa(bs:gk):∀c∈pU bs,c≠9/\c≠111:=λc e=>by
 unfold pU at e;obtain⟨b,_,rfl⟩:=bJ.mp e;exact OA b
theorem ML:∀ {L:List (Nat×Nat)} {a:gk},(∀c∈a,c≠9/\c≠111)->∀c∈CO a L,c≠9/\c≠111
 |[],_,h=>h
 |x::L,a,h=>ML (L:=L) (a:=a.set x.1 (pN.getD x.2 0)) λc b=>(List.mem_or_eq_of_mem_set b).elim (h c) λe=>e▸OA _
def ZY(hd:Dk C H d r k ph)(R:1<=k)(J:k<=4)(hk:rL l=ae (dd,uW nm n b dd))(hq:q7 dd=aw)(hl:l.length<=1000)(hn:n<10^9)(hb:b.length<=1000)(B:AT ph (pA nm)=ae (tx a))(I:AR k a=aw)
 (q:∀t G,pj H G->qi k a n b dd t->Q (tx t) G):vw (Di cs C) K cs C d (tx l) H Q E:=by
 have T:=Ai I;have S:k.toNat<=4:=by lia
 have A:∀c∈a,c≠9/\c≠111:=λc D=>by
  have e:∀c∈sgn 4,c≠9/\c≠111:=by decide
  exact e c (JH J (DP I c D))
 have aa:tN a:= .Z oZ A;have cb:=(Ee (k:=k.toNat) (a:=a) S T)
 cases dd<;>first|(cases hq;done)|skip
 all_goals refine w5 hd hk hl (by unfold EG;delta pW.Z uW;simp[B]) λQ' E' f H' g i L _ M X=>?_
 .exact⟨d,f,r,k,ph,nm,a,rfl,i,L,B,by lia,λG s=>M _ G aa.ld λj x=>q _ j ((g.J s).J x) .show⟩
 .exact⟨d,f,r,k,ph,nm,a,⟨rfl,i,R,J,L,B,I⟩,λG s=>M _ G (OB _) λj x=>q _ j ((g.J s).J x) .g⟩
 .exact⟨d,f,r,k,ph,nm,a,⟨rfl,i,R,J,L,B,I⟩,λG s=>M _ G (OB _) λj x=>q _ j ((g.J s).J x) .l⟩
 .exact⟨d,f,r,k,ph,nm,a,⟨rfl,i,R,J,L,B,I⟩,λG s=>M _ G (IH oZ) λj x=>q _ j ((g.J s).J x) .k⟩
 .refine⟨d,f,r,k,ph,nm,a,n,⟨rfl,i,R,J,L,B,I⟩,hn,?_⟩
  by_cases c:(n:Int)<qc k.toNat a
  .exact .inl ⟨c,λv G s nf Y=>M _ G (tN.ld (.Z (by unfold pU;rw[az];lia) (Wa v))) λj x=>q _ j ((g.J s).J x) (.j c nf Y)⟩
  .exact .inr ⟨c,X _ _ .b λG s=>q _ G s (.e c)⟩
 .refine⟨d,f,r,k,ph,nm,a,b,⟨rfl,i,R,J,L,B,I⟩,hb,?_⟩
  cases c:AR k b with
  |false=>exact .inl ⟨rfl,X _ _ .d λG s=>q _ G s (.a c)⟩
  |true=>
   cases O:qh k a b with
   |false=>exact .inr (.inl ⟨rfl,rfl,X _ _ .c λG s=>q _ G s (.c c O)⟩)
   |true=>
    obtain⟨v,e,Z⟩:=M7 (k:=k.toNat) S (by rwa[show((k.toNat:Nat):Int)=k by lia]);obtain⟨_,h0,a0⟩:=Fi.Z (k:=k.toNat) S T (by intro o ho;cases ho) Z;have hW:W k.toNat a 0 []=qc k.toNat a:=rfl;refine .inr (.inr ⟨rfl,v,e,Z,λG s=>M _ G (IH ?_) λj x=>q _ j ((g.J s).J x) (.i c O e Z)⟩);lia
 .refine⟨d,f,r,k,ph,nm,a,⟨rfl,i,R,J,L,B,I⟩,?_⟩
  by_cases c:qc k.toNat a=0
  .exact .inl ⟨c,X _ _ .a λG s=>q _ G s (.b c)⟩
  .exact .inr ⟨c,λG s=>M _ G (tN.ld (.Z (by rw[DQ];lia) (ML A))) λj x=>q _ j ((g.J s).J x) (.f c)⟩
 .refine⟨d,f,r,k,ph,nm,a,⟨rfl,i,R,J,L,B,I⟩,λG s=>M _ G ?_ λj x=>q _ j ((g.J s).J x) .d⟩;have m:=λw l h=>Fn (a:=a) (show k.toNat<=4 by lia) (w:=w) (l:=l) h;generalize wy k.toNat a=o at m⊢
  match o,m with
  |none,_=>exact .J
  |some (w,P),m=>
   have p:P.length=a.length:=(m w P rfl).1;have D:=GD a P;have U:=Fb (chg a P);have u:=DA 8 (chg a P) oZ;have hs:=Fk (a:=rS P) (n:=40) oY (by unfold rS;rw[az];lia);show tN (Ab (chg a P)++[32]++rK (rS P))
   cases e:Ab (chg a P)with
   |nil=>exact absurd e (Hy _)
   |cons c t=>
    rw[e]at U u;have:=U c aG;refine⟨?_,λz=>?_,λz=>?_⟩
    .simp only[aN,aJ,dP]at*;lia
    .cases z;lia
    .have:=(nH z).1;lia
 .refine⟨d,f,r,k,ph,nm,a,⟨rfl,i,R,J,L,B,I⟩,λV G s N=>M _ G ?_ λj x=>q _ j ((g.J s).J x) (.h N)⟩
  cases V with
  |nil=>exact .J
  |cons y t=>
   have hy:=((N.2.1 y).mp aG).J;refine IH (n:=y.toNat) ?_;lia
end
inductive vO:Type
 |mk (k:Int) (a:gk) (_:vs=[.a k,tx a]) (_:1<=k) (_:k<=4) (_:a.length<=1000) (_:∀H',pj H H'->Q (.c (AR k a)) H')
inductive uZ:Type
 |mk (a:gk) (_:vs=[tx a]) (_:Q (tx (rK a)) H)
def JB:List gk:=[Gu,Gs,Gi,Fg]
inductive vJ(cs:Cs):Type
 |mk (x C:ay) (ob:Obj) (nm:gk) (_:vs=[.b x]) (_:H x=ae (BM ob x C)) (_:qR cs C nm) (_:nm∈JB) (_:∀H',pj H H'->Q (tx nm) H')
inductive ve(cs:Cs):Type
 |mk (k:Int) (a:gk) (_:vs=[.a k,tx a]) (_:1<=k) (_:k<=4) (_:AR k a=aw) (_:(qc k.toNat a=0/\Ref E cs.a H)\/(qc k.toNat a≠0/\∀H',pj H H'->Q (tx (CO a (By k.toNat a))) H'))
def wx(n:Nat)(b:gk):pW->gk
 | .nth=>Ab n| .number=>b|_=>[]
inductive vK(cs:Cs):Type
 |mk (k:Int) (dd:pW) (a:gk) (n:Nat) (b:gk) (_:vs=[.a k,tx dd.J,tx a,tx (wx n b dd)]) (_:1<=k) (_:k<=4) (_:AR k a=aw) (_:q7 dd=aw) (_:n<10^9) (_:b.length<=1000) (_:dd= .number->AR k b=aw)
   (_:∀t H',pj H H'->qi k a n b dd t->Q (tx t) H') (_:∀C nm,qR cs C nm->nm∈JB->qi k a n b dd nm->Ref E C H)
inductive wL:Type
 |mk (k:Int) (dd:pW) (a:gk) (n:Nat) (b:gk) (_:vs=[.a k,tx dd.J,tx a,tx (wx n b dd)]) (_:1<=k) (_:k<=4) (_:AR k a=aw) (_:q7 dd=aw) (_:n<10^9) (_:b.length<=1000)
   (_:∀t H',pj H H'->qi k a n b dd t->Q (tx t) H')
inductive u5:Type
 |mk (p:ay) (k:Int) (a:gk) (_:vs=[.b p, .a k,tx a]) (_:Po H p) (_:1<=k) (_:k<=4) (_:AR k a=aw) (_:∀ (L:ay) (dd:pW) (n:Nat) (b:gk) (H':Hp),H L=none->Po H' p->pf p H H'->q7 dd=aw->n<10^9->b.length<=50->(∀c∈b,c∈sgn 4\/c=120)->H' L=ae (.b [tx dd.J,tx (wx n b dd)])->Q (.b L) H')
def ZP{r:Int}(k:0<=r)(h:r<9):∃dd:pW,q7 dd=aw/\pY [tx [114,105,103,104,116],tx [109,97,121],tx [109,97,110,121],tx [110,116,104],tx [110,117,109,98,101,114],tx [115,117,114,101],tx [102,101,119,101,115,116],tx [109,111,114,101],tx [115,104,111,119]] r=ae (tx dd.J):=by
 have:r=0\/r=1\/r=2\/r=3\/r=4\/r=5\/r=6\/r=7\/r=8:=by lia
 rcases this with rfl|rfl|rfl|rfl|rfl|rfl|rfl|rfl|rfl
 .exact⟨.d,rfl,rfl⟩
 .exact⟨.l,rfl,rfl⟩
 .exact⟨.i,rfl,rfl⟩
 .exact⟨.nth,rfl,rfl⟩
 .exact⟨.number,rfl,rfl⟩
 .exact⟨.f,rfl,rfl⟩
 .exact⟨.b,rfl,rfl⟩
 .exact⟨.h,rfl,rfl⟩
 .exact⟨.show,rfl,rfl⟩
def Ui(d:dd≠ .nth)(e:dd≠ .number)(n:Nat)(b:gk):wx n b dd=[]:=by
 cases dd<;>first|rfl|exact absurd rfl d|exact absurd rfl e
def Tq(b:dd≠ .nth):decide (dd.J=[110,116,104])=au:=by cases dd<;>first|decide|exact absurd rfl b
def Tp(b:dd≠ .number):decide (dd.J=[110,117,109,98,101,114])=au:=by cases dd<;>first|decide|exact absurd rfl b
def Nz{F:(Bool->Hp->Prop)->Prop}(t:∀G,co G->R G)(d:c=aw->co H)(h:c=au->(∀G,co G->R G)->F λb G=>if b=aw then R G else P G):if c=aw then(if aw=aw then R H else P H)else F (λb G=>if b=aw then R G else P G):=by
 cases c with
 |true=>exact t H (d rfl)
 |false=>exact h rfl t
def WL{F:(Bool->Hp->Prop)->Prop}{co:Prop}(t:∀G,pj H G->co->P G)(d:c=aw->(∀G,pj H G->co->P G)->F λb G=>if b=aw then R G else P G)(h:c=au->co):if c=aw then F (λb G=>if b=aw then R G else P G)else(if au=aw then R H else P H):=by
 cases c with
 |true=>exact d rfl t
 |false=>exact t H (pj.ap H) (h rfl)
def RI(h:Iu K cs=aw)(L:qR cs C nm)(y:nm∈JB)(Z:qm K C):∃ (z B G H:Bool) (j:Nat) (I:gk),qm K C/\W.kitOne K (.ref C) (.ref cs.c)=ae z/\W.kitOne K (.ref C) (.ref cs.b)=ae B/\W.kitOne K (.ref C) (.ref cs.a)=ae G/\W.kitOne K (.ref C) (.ref cs.e)=ae H/\
 [z,B,G,H][j]? =ae aw/\(∀m,m<j->[z,B,G,H][m]? ≠ae aw)/\pY [tx [78,111,78,117,109,98,101,114],tx [78,111,116,82,105,103,104,116],tx [78,111,70,105,108,108,105,110,103],tx [78,111,76,105,110,101]] (j:Int)=ae (tx I)/\nm=9::I/\I.length<=10:=by
 have k:∀i,i<7->Dm K cs ([cs.h,cs.g,cs.d,cs.e,cs.c,cs.b,cs.a].getD i 0) i=aw:=λi a=>a'.mp h i (bR.mpr a);have f:∀ (C:ay) (i:Nat),Dm K cs C i=aw->W.kitOne K (.ref C) (.ref cs.c)=ae (4==i)/\W.kitOne K (.ref C) (.ref cs.b)=ae (5==i)/\W.kitOne K (.ref C) (.ref cs.a)=ae (6==i)/\W.kitOne K (.ref C) (.ref cs.e)=ae (3==i):=λC i hk=>by
  unfold Dm at hk;simp only[aW,bP,aY,fH,aH,mQ,mV,and_true]at hk;obtain⟨_,R,S,T,M,P,Q,J⟩:=hk;exact⟨P,Q,J,M⟩
 cases L
 .exact absurd y oY
 .exact absurd y oY
 .exact absurd y oY
 .obtain⟨b,d,e,x⟩:=f _ 3 (k 3 oY);exact⟨_,_,_,_,3,_,Z,b,d,e,x,rfl,by decide,rfl,rfl,by decide⟩
 .obtain⟨b,d,e,x⟩:=f _ 4 (k 4 oY);exact⟨_,_,_,_,0,_,Z,b,d,e,x,rfl,by decide,rfl,rfl,by decide⟩
 .obtain⟨b,d,e,x⟩:=f _ 5 (k 5 oY);exact⟨_,_,_,_,1,_,Z,b,d,e,x,rfl,by decide,rfl,rfl,by decide⟩
 .obtain⟨b,d,e,x⟩:=f _ 6 (k 6 oY);exact⟨_,_,_,_,2,_,Z,b,d,e,x,rfl,by decide,rfl,rfl,by decide⟩
end
end Lake
namespace PySem
open PySem.Sem (wp)
variable{t:Tok}{z:Zk}
inductive Zk|s (x:Str)|l (a:ay)|t (a:ay)
def Zk.Z(t:Tok):Zk->ai| .s x=> .str x t| .l a=> .ref a| .t a=> .ref a
def Zk.ld(t:Tok):Zk->Obj| .s x=>zm x t| .l a=>lit a| .t a=>zk a
def Zk.J(h:dg):Zk->Prop| .s _=>True| .l a=>∃us,h.IsList a us| .t a=>∃us,h.IsTuple a us
def Zk.fp:Zk->List ay| .s _=>[]| .l a=>[a]| .t a=>[a]
def Zk.it(z:Zk)(t:Tok)(j i:Nat)(h:dg):Prop:=∃o,h.get? j=ae o/\o.cls=(z.ld t).cls/\o.data= .fields #[z.Z t, .int i 0]
theorem Zk.J.J{h:dg}(g:z.J h):z.J (h.push o):=by
 cases z with
 |s=>trivial
 |l a=>exact let⟨b,q,e,r⟩:=g;⟨b,q,af _ e,r⟩
 |t a=>exact let⟨b,q,e,r⟩:=g;⟨b,q,af _ e,r⟩
def Zk.J.Z{h:dg}(g:z.J h):∀a∈z.fp,a<h.objs.size:=by
 cases z with
 |s=>exact λ_ h=>nomatch h
 |l a=>exact λb d=>let⟨i,q,e,r⟩:=g;aS.mp d▸ax e
 |t a=>exact λb d=>let⟨i,q,e,r⟩:=g;aS.mp d▸ax e
def Zk.y7(z:Zk)(t:Tok):(z.ld t).data= .fields #[z.Z t, .int 0 0]:=by cases z<;>rfl
section
variable{s:ak}
def Zk.mt(z:Zk)(g:z.J s.heap)(h:Q (.ref s.1.1.size) {s with heap:=s.heap.push (z.ld t)}):aO (aV prog w) A (jl (z.Z t)) Q E s:=by
 cases z with
 |s x=>exact wpAny_pyIter_strU h
 |l a=>obtain⟨b,g⟩:=g;exact fM g h
 |t a=>obtain⟨b,g⟩:=g;exact wpAny_pyIter_tuple g h
end
section
variable(h:dg)(x y:Zk)(t u:Tok)
abbrev xV:dg:=(h.push (x.ld t)).push (y.ld u)
abbrev xU:dg:=(xV h x y t u).push {cls:= .type "tuple",data:= .seq #[.ref h.objs.size, .ref (h.push (x.ld t)).objs.size]}
abbrev xT:dg:=(xU h x y t u).push {cls:= .type "tuple",data:= .seq #[.none, .none]}
abbrev wH:dg:=(xT h x y t u).push {cls:= .type "zip",data:= .fields #[.none, .bool au, .bool au, .ref (xV h x y t u).objs.size, .ref (xU h x y t u).objs.size]}
end
def QE(x y:Zk)(t u:Tok):
 Meets (dR.«zip.__new__» ⟨[.type "zip",x.Z t,y.Z u],[]⟩) (λ_ R s=>x.J s.heap/\y.J s.heap/\R (.ok (.ret (.ref (xT s.heap x y t u).objs.size))) {s with heap:=wH s.heap x y t u}):=
 .of_wp λa w A R s h=>by
   obtain⟨e,g,d,B,c⟩:=s;obtain⟨i,j,h⟩:=h;have b:=sub_zip;have z:y.J (e.push (x.ld t)):=j.J
   wp_walk using Zk.mt x (t:=t) i,Zk.mt y (t:=u) z
   exact⟨_,rfl,h⟩
def TV{s:ak}{x y:Zk}{u:Tok}(I:x.J s.heap)(J:y.J s.heap)
 (h:∀b,jD b (s.1.1.size+4) (s.1.1.size+2) (s.1.1.size+3) .none->e9 b (s.1.1.size+2) (.ref s.1.1.size) (.ref (s.1.1.size+1))->
   e9 b (s.1.1.size+3) .none .none->x.it t s.1.1.size 0 b->y.it u (s.1.1.size+1) 0 b->b.objs.size=s.1.1.size+5->
   (∀c o,s.heap.get? c=ae o->b.get? c=ae o)->Q (.ref (s.1.1.size+4)) {s with heap:=b}):
 aO (aV prog w) A (call (.type "zip") [x.Z t,y.Z u]) Q E s:=by
 refine callType_new F.called_zip oY (F.typeCall_zip_2 _ _) (F.newCall_zip_2 _ _) (λg=>F.args_object_init_3 g _ _) F.entry_zip_new
  (QE x y t u) ?_
 have f:(s.heap.push (x.ld t)).objs.size=s.1.1.size+1:=bK ..;have a:(xV s.heap x y t u).objs.size=s.1.1.size+2:=by rw[bK,f]
 have d:(xU s.heap x y t u).objs.size=s.1.1.size+3:=by rw[bK,a]
 have i:(xT s.heap x y t u).objs.size=s.1.1.size+4:=by rw[bK,d]
 have L:(wH s.heap x y t u).objs.size=s.1.1.size+5:=by rw[bK,i]
 have B:∀ (z:Zk) (t:Tok),(z.ld t).isFreed=au:=λz t=>by cases z<;>rfl
 have j:(wH s.heap x y t u).get? (xT s.heap x y t u).objs.size=ae _:=aq _ rfl;have m:=fun(h:dg) (c:ay) (o l:Obj) (e:h.get? c=ae o)=>af (h:=h) l e;have G:(wH s.heap x y t u).get? (xU s.heap x y t u).objs.size=ae _:=af _ (aq _ rfl);have H:(wH s.heap x y t u).get? (xV s.heap x y t u).objs.size=ae _:=af _ (af _ (aq _ rfl));have k:(wH s.heap x y t u).get? (s.heap.push (x.ld t)).objs.size=ae _:=af _ (af _ (af _ (aq _ (B y u))));have M:(wH s.heap x y t u).get? s.1.1.size=ae _:=af _ (af _ (af _ (af _ (aq _ (B x t)))));refine⟨I,J,?_⟩;show _/\_;rw[a,d,i]at j;rw[f,a]at H;rw[d]at G;rw[f]at k;rw[i];exact⟨⟨_,j,rfl⟩,h _ j H G ⟨_,M,rfl,x.y7 t⟩ ⟨_,k,rfl,y.y7 u⟩ L λc o x=>
  af _ (af _ (af _ (af _ (af _ x))))⟩
end PySem
namespace Lake
section
variable{ta:TA}{Q:VK}{x:Zk}{R:Zk->Zk->Prop}
def Zk.v:Zk->V| .s x=> .e x| .l a=> .b a| .t a=> .b a
def Zk.J(K:aB)(H:Hp)(xs:gr):Zk->Prop| .s x=>xs=x.cps.toList.map λc=> .e ⟨#[c]⟩| .l a=>pq K H a xs| .t a=>pX K H a xs
def xp(K:aB)(x y:Zk):qo:=⟨λi H=>∃b e,Zk.J K H b x/\Zk.J K H e y/\i<b.length/\i<e.length,λi H v j=>∃T c d,H T=none/\(∀b,Zk.J K H b x->b[i]? =ae c)/\(∀e,Zk.J K H e y->e[i]? =ae d)/\v= .b T/\j=upd H T (.b [c,d]),λi H=>∃b e,Zk.J K H b x/\Zk.J K H e y/\(i=b.length\/(i<b.length/\i=e.length))⟩
section
variable{k:Nat}
def Zk.zd{O:pz}{s:ak}(I:Inv X pb O H s)(G:X.A.in1.handled=none)(z:Zk)(d:Zk.J X.K H xs z)(t:Tok)(j:ay)(Q:∀a∈z.fp,a≠j):
 ∃ (k:Nat->ai->Prop) (J:Nat->dg->Prop),j5 X.d X.w X.A.in1 j (j::z.fp) xs.length k J/\(∀i,z.it t j i s.heap->J i s.heap)/\(∀i h,J i h->z.it t j i h)/\∀i v,k i v->∃q,RelV q v/\∀y,Zk.J X.K H y z->y[i]? =ae q:=by
 cases z with
 |s x=>
  cases d
  rw[az];refine⟨_,_,YY j x t X.A.in1 G,λi h=>h,λi h h=>h,?_⟩;rintro i v ⟨c,u,R,rfl⟩;refine⟨.e ⟨#[c]⟩,⟨u,rfl⟩,λy e=>?_⟩
  cases e
  rw[ao,cg,R];rfl
 |l a=>
  obtain⟨b,rv,L,_⟩:=I.J d;rw[rv.J,<-aA];refine⟨_,_,nv G j a (Q a aG) b.toArray,λi h=>⟨h,L.isList⟩,λi h g=>g.1,λi v e=>?_⟩;have e:b[i]? =ae v:=by simpa using e
  have f:i<xs.length:=by rw[rv.J];exact(aR.mp e).1
  obtain⟨S,B,M⟩:=rv.ld (i:=i) (x:=xs[i]) (al f);rw[e]at B;cases B;exact⟨_,M,λy h=>by rw[<-I.rG d h];exact al f⟩
 |t a=>
  obtain⟨b,rv,L,_⟩:=I.mt d;rw[rv.J,<-aA];refine⟨_,_,Uz G j a (Q a aG) b.toArray,λi h=>⟨h,L⟩,λi h g=>g.1,λi v e=>?_⟩;have e:b[i]? =ae v:=by simpa using e
  have f:i<xs.length:=by rw[rv.J];exact(aR.mp e).1
  obtain⟨S,B,M⟩:=rv.ld (i:=i) (x:=xs[i]) (al f);rw[e]at B;cases B;exact⟨_,M,λy h=>by rw[<-I.uC d h];exact al f⟩
def R7{y:Zk}{t u:Tok}{z V σ N m:ay}(D:tK z V σ N m [N] [m])(g:∀a∈x.fp,∀b∈[z,V,σ,N,m],a≠b)(S:∀a∈y.fp,∀b∈[z,V,σ,N,m],a≠b):
 Turn P w K (.Tuple elts k tpos) (xp K x y) [z,V,σ,N,m] z (λi h=>jD h z V σ .none/\e9 h V (.ref N) (.ref m)/\(∃a b,e9 h σ a b)/\x.it t N i h/\y.it u m i h):=by
 have D':tK z V σ N m (N::x.fp) (m::y.fp):=by
  have c:∀ {l:List ay} {b i:ay},(∀a∈l,∀b∈[z,V,σ,N,m],a≠b)->b∈[z,V,σ,N,m]->b∉[i]->b∉i::l:=λn B hi h=>(aL.mp h).elim (λe=>hi (by simp[e])) λh=>n _ h _ B rfl;exact⟨D.f,D.a,D.c,D.d,D.b,c g b' D.g,c S b' D.h,c g b' D.k,c S b' D.i,c S b' D.e,c g b' D.j,aG,aG⟩
 refine⟨by simp,λi h G b B=>?_,λi h h' G k=>?_,?_,?_,λA i s Q E G h=>me G.1 h⟩
 .obtain⟨M,d,⟨a,U,j⟩,⟨o1,J,_,Y⟩,⟨o2,L,_,Z⟩⟩:=G;simp only[aL,d0,kS]at B;rcases B with rfl|rfl|rfl|rfl|rfl
  .exact⟨_,M,λv z=>by cases z⟩
  .exact⟨_,d,λv z=>by cases z⟩
  .exact⟨_,j,λv z=>by cases z⟩
  .exact⟨_,J,λv z=>by rw[Y]at z;cases z⟩
  .exact⟨_,L,λv z=>by rw[Z]at z;cases z⟩
 .obtain⟨M,d,⟨a,U,j⟩,⟨o1,J,r1⟩,⟨o2,L,r2⟩⟩:=G;exact⟨k z b' _ M,k V b' _ d,⟨a,U,k σ b' _ j⟩,⟨o1,k N b' _ J,r1⟩,⟨o2,k m b' _ L,r2⟩⟩
 all_goals
  intro X hP hw hK hc i pb s O H E I hf G f;subst hP hw hK;obtain⟨M,d,⟨a,U,j⟩,T,h2⟩:=G;obtain⟨C,p,R,hy,f⟩:=f;obtain⟨P1,S1,D1,a1,b1,c1⟩:=Zk.zd I (I.e.k hc) x R t N λa h=>g a h N b';obtain⟨P2,S2,D2,a2,b2,c2⟩:=Zk.zd I (I.e.k hc) y hy u m λa h=>S a h m b'
 .refine pB (Ti (elts:=elts) (k:=k) (tpos:=tpos) (Qx:=λv q=>∀p,Zk.J X.K H p x->p[i]? =ae q) (Qy:=λv q=>∀C,Zk.J X.K H C y->C[i]? =ae q)
   (tn:=λh=>jD h z V σ .none/\e9 h V (.ref N) (.ref m)/\(∃a b,e9 h σ a b)/\x.it t N (i+1) h/\y.it u m (i+1) h) D' D1 D2 I hf M d j (a1 i T) (a2 i h2) f.1 f.2
   (λh' _ _ q1 q2 q3 q4 q5=>⟨q1,q2,⟨_,_,q3⟩,b1 _ _ q4,b2 _ _ q5⟩) (c1 i) (c2 i)) ?_
  rintro r s1 ⟨u,hr,T⟩;refine⟨u,hr,pB T ?_⟩;rintro _ s2 ⟨xv,H',I2,rx,⟨Ta,q1,q2,v1,v2,hT,R,hy,ex,eH⟩,a0,fr⟩;exact⟨xv,H',I2,rx,⟨Ta,q1,q2,hT,R,hy,ex,eH⟩,a0,fr⟩
 .exact P3 D' D1 D2 M d j (a1 i T) (a2 i h2) f λh' tk R=>⟨rfl,I.pP (t':=tk) hf λb o B q=>R b o (λz=>B (by simp[z])) (λz=>B (by simp[z])) (λz=>B (by simp[z])) (λz=>B (by simp[z])) q⟩
end
def PR(K:aB)(d:TA):TI:=λa H R=>d a H λvs b=>∃x y e i,vs=[Zk.v x,Zk.v y]/\Zk.J K b e x/\Zk.J K b i y/\R (xp K x y) b
theorem Zk.Z{O:pz}{s:ak}(I:Inv X pb O H s){v:ai}(h:Zk.J X.K H xs x)(r:RelV (Zk.v x) v):∃t,v=x.Z t/\x.J s.heap:=by
 cases x with
 |s x=>obtain⟨t,rfl⟩:=r;exact⟨t,rfl,trivial⟩
 |l a=>obtain⟨b,c,d,_⟩:=I.J h;cases r;exact⟨0,rfl,_,d.isList⟩
 |t a=>obtain⟨b,c,d,_⟩:=I.mt h;cases r;exact⟨0,rfl,_,d⟩
section
variable{a b:dH}{p pos:Pos}{k:Nat}
def Fm(K:aB)(N:Gl X "zip")(S:X.h "zip"=none)(B:PA X [a,b] ta)(T:aI [a,b] X.a=[(au,eval a X.a),(au,eval b X.a)]<|>n')(i:aI [b] X.a=[(au,eval b X.a)]<|>n')(U:X.K=K<|>n'):PI X (.Tuple elts k tpos) (.Call (.Name "zip" p) [a,b] [] pos) (PR K ta):=by
 subst U;intro n s f H R I h;refine Call_ (CL I N S boot_zip (bN (zQ (B pos n s f H _ I h) λus d V Y j Z m=>?_) (by rw[T,i]) (by rw[i];rfl)));obtain⟨x,y,O,E,e,v,o,q⟩:=m;subst e
 cases Z with
 |cons r c=>
  cases c with
  |cons l c=>
   cases c
   obtain⟨t,rfl,L⟩:=Zk.Z j v r;obtain⟨u,rfl,M⟩:=Zk.Z j o l;have P:∀ (z:Zk),z.J d.heap->∀a∈z.fp,∀b∈[d.1.1.size+4,d.1.1.size+2,d.1.1.size+3,d.1.1.size,d.1.1.size+1],a≠b:=λz g a B b A e=>by
    have:=aQ (g.Z a B) (am _);subst e;simp only[aL,d0,kS]at A;lia
   refine TV L M λh' Q G J D C w hk=>me Q ?_;exact⟨d.1.1.size+4,[d.1.1.size+4,d.1.1.size+2,d.1.1.size+3,d.1.1.size,d.1.1.size+1],_,_,Y,rfl,j.ap (t':=d.toks) hk,R7 (ZX _) (P x L) (P y M),⟨Q,G,⟨_,_,J⟩,D,C⟩,YR j,q⟩
end
def XG{O:pz}{R:qo->Hp->Prop}(h:ta O H λvs b=>∃x y d e,vs=[Zk.v x,Zk.v y]/\Zk.J K b d x/\Zk.J K b e y/\R (xp K x y) b):PR K ta O H R:=h
section
variable{y:Zk}{ys:gr}{O:pz}
def XE(h:R (.s ⟨a.toArray⟩) (.s ⟨b.toArray⟩)):∃x y xs ys,[tx a,tx b]=[Zk.v x,Zk.v y]/\Zk.J K H xs x/\Zk.J K H ys y/\R x y:=⟨.s _, .s _,_,_,rfl,rfl,rfl,h⟩
def YS(J:ys.length=xs.length)(h:Nat->pz->Hp->Prop)(m:h 0 O H)(k:∀i O b,h i O b->Zk.J K b xs x/\Zk.J K b ys y)
 (j:∀i c d T O e b,xs[i]? =ae c->ys[i]? =ae d->h i O e->pj e b->b T=ae (.b [c,d])->g (.b T) O b λa z=>tb {D with nx:=h (i+1),b:=h (i+1),c:=D.nx} a z) (l:∀O H,h xs.length O H->D.nx O H):CF (xp K x y) g tb D O H:=by
 refine GA (n:=xs.length) h m (λi O H f p=>⟨xs,ys,(k _ _ _ p).1,(k _ _ _ p).2,f,by lia⟩) (λO H p=>⟨xs,ys,(k _ _ _ p).1,(k _ _ _ p).2, .inl rfl⟩) (λi v O e b f p B=>?_) l;obtain⟨T,c,d,G,I,l,rfl,rfl⟩:=B;exact j i c d T O e _ (I _ (k _ _ _ p).1) (l _ (k _ _ _ p).2) p (AL G _) AF
def ND(Z:ys.length=xs.length)(h:ay->Nat->gr->Hp->Prop)(k:∀D i e j,H D=none->h D i e j->Zk.J K j xs x/\Zk.J K j ys y)(m:∀D,H D=none->h D 0 [] (upd H D (.a [])))
 (I:∀D e j,H D=none->j D=ae (.a e)->h D xs.length e j->Q (.b D) j)
 (S:∀D i c d T e G j,H D=none->xs[i]? =ae c->ys[i]? =ae d->i<xs.length->j D=ae (.a e)->e.length<=i->h D i e G->pj G j->j T=ae (.b [c,d])->g (.b T) (AZ own sel O) j λa U=>tt a U λb M=>
   if b=aw then te a M λv P=>∃e,P D=ae (.a e)/\e.length<sizeLine/\∃B,B<xs.length-i/\CW D xs.length (h D) (i+1) B (upd P D (.a (e++[v])))
   else∃B,B<xs.length-i/\CW D xs.length (h D) (i+1) B M):BV (xp K x y) own sel O g tt te Q H:=by
 refine DG (n:=xs.length) h m (λD i e j z f _ p=>⟨xs,ys,(k _ _ _ _ z p).1,(k _ _ _ _ z p).2,f,by lia⟩) (λD e j z J _ p=>⟨⟨xs,ys,(k _ _ _ _ z p).1,(k _ _ _ _ z p).2, .inl rfl⟩,I D e j z J p⟩) (λD i e G o q z f J L p X=>?_);obtain⟨T,c,d,R,Y,l,rfl,rfl⟩:=X;exact S D i c d T e G _ z (Y _ (k _ _ _ _ z p).1) (l _ (k _ _ _ _ z p).2) f (AL R _ _ _ J) L p (AL R _) AF
def MG(v:Nat->Nat->V)(N:b.length=a.length)(u:a.length<=sizeLine)(J:∀D j,H D=none->pj H j->j D=ae (.a ((aH a.length).map λi=>v (a.getD i 0) (b.getD i 0)))->Q (.b D) j)
 (q:∀ (i c d:Nat) (T:ay) (j:Hp) (R:V->Hp->Prop),a[i]? =ae c->b[i]? =ae d->pj H j->j T=ae (.b [tx [c],tx [d]])->(∀L,pj j L->R (v c d) L)->g (.b T) (AZ own sel O) j λf r=>te f r R):BV (xp K (.s ⟨a.toArray⟩) (.s ⟨b.toArray⟩)) own sel O g qe te Q H:=by
 have G:∀ (a:gk),(a.map λc=>tx [c]).length=a.length:=λa=>az _;refine ND (xs:=a.map λc=>tx [c]) (ys:=b.map λc=>tx [c]) (by rw[G,G,N]) (λD i h j=>pj H j/\h=(aH i).map λi=>v (a.getD i 0) (b.getD i 0)) (λ_ _ _ _ _ _=>⟨rfl,rfl⟩) (λD B=>⟨AL B _,rfl⟩) (λD h j B M ⟨I,e⟩=>J D j B I (by rw[M,e,G])) ?_;rintro D i c d T h w t B U m l P S ⟨I,e⟩ X p;rw[G]at l⊢;rw[ao]at U m;obtain⟨c,Y,rfl⟩:=dj.mp U;obtain⟨d,Z,rfl⟩:=dj.mp m;have n:v (a.getD i 0) (b.getD i 0)=v c d:=by rw[ag,ag,Y,Z];rfl
 rw[Tj];refine q i c d T t _ Y Z (I.J X) p λL k=>?_;refine B8 l u (k _ _ P) S ⟨λx o z=>?_,?_⟩
 .rw[AG (AQ z B)];exact k _ _ (X _ _ (I _ _ z))
 .rw[e,cr,b0,List.map_singleton,n]
end
end
section
variable{D:pW->Sp}{ar:List gk}{r:List (gk×gk)}{p:gk}{f:gk×gk->Bool}
def jn:List gk->gk|[]=>[]|[w]=>w|w::x::r=>w++32::jn (x::r)
theorem Nx:∀ (r:List gk) (w:gk),r.length<=(jn (w::r)).length
 |[],_=>bt _
 |x::r,w=>by
  show _<=(w++32::jn (x::r)).length;have:=Nx r x;rw[aN,aJ,aJ];lia
def yd(w x:gk):(jn [w,x]).length=w.length+1+x.length:=by show(w++32::x).length=_;rw[aN,aJ];lia
def yc(w x y:gk):(jn [w,x,y]).length=w.length+1+x.length+1+y.length:=by show(w++32::jn [x,y]).length=_;rw[aN,aJ,yd];lia
theorem IP:∀ (r:List gk) (w:gk) (n:Nat),r.length<=n->(∀x∈(w::r).dropLast,32∉x)->(n=r.length\/∀x∈w::r,32∉x)->pS 32 n (jn (w::r))=w::r
 |[],w,n,_,_,h=>by
  show pS 32 n w=[w];rcases h with rfl|h
  .exact T4 _ _
  .exact LR _ _ _ (h w aG)
 |x::r,w,0,h,_,_=>absurd h (Nat.not_succ_le_zero _)
 |x::r,w,n+1,h,d,e=>by
  show pS 32 (n+1) (w++32::jn (x::r))=_;rw[Hj 32 n w _ (d w aG),IP r x n (Nat.le_of_succ_le_succ h) (λy b=>d y (aM _ b)) (e.imp n5 λh y b=>h y (aM _ b))]
def qF(d:pW):32∉d.J:=by cases d<;>decide
set_option tactic.hygienic true in
def Cw(d:pW)(ar:List gk)(j:ar.length=d.Z.length)(B:(ar.zip d.Z).all (λx=>CC x.1 x.2)=aw)(G:∀x∈ar.dropLast,32∉x)(H:Cd∈d.Z\/∀x∈ar,32∉x):rL (jn (d.J::ar))=ae (d,ar):=by
 have I:Bz (jn (d.J::ar))=d.J:=by
  unfold Bz
  cases ar with
  |nil=>show((pS 32 1 d.J).head?).getD []=_;rw[LR _ _ _ (qF d)];rfl
  |cons x r=>show((pS 32 1 (d.J++32::jn (x::r))).head?).getD []=_;rw[Hj 32 0 _ _ (qF d)];rfl
 have b:∀x∈(d.J::ar).dropLast,32∉x:=by
  cases ar with
  |nil=>exact λx i=>nomatch i
  |cons y r=>exact λx i=>(aL.mp i).elim (λe=>e▸qF d) (G x)
 have J:rl (jn (d.J::ar)) d.Z=d.J::ar:=by
  unfold rl
  split
  .exact IP ar _ _ (gi j) b (.inl j.symm)
  .rename_i z
   exact IP ar _ _ (gR (Nx ar _)) b (.inr λx i=>(aL.mp i).elim (λe=>e▸qF d) (H.resolve_left z x))
 unfold rL;rw[I,Mq];show(if _ then _ else _)=_;rw[J];exact aU ⟨j,B⟩
def Sy(h:n<10^9):FH (Ab n)=aw:=by
 unfold FH;have i:=DA 8 n h;have b:=List.length_pos_iff.mpr (Hy n);rw[aW,aW,bD,a',ce];refine⟨⟨⟨by lia,by lia⟩,λc d=>?_⟩,?_⟩
 .have a:=Fb n c d;have e:∀j,j<10->decide (48+j∈wZ)=aw:=by decide
  have:=e (c-48) oZ;rwa[show 48+(c-48)=c by lia]at this
 .by_cases z:n<10
  .rw[EN z];exact .inl rfl
  .exact .inr (by simpa using Sd (n:=n) oZ)
def CZ(h:Nm a)(b:p=A0\/p=Dj):CC a p=aw:=by
 have:=vq.mpr h;rcases b with rfl|rfl<;>exact this
def M6(h:n<10^9):CC (Ab n) Ds=aw:=Sy h
def all2(h:f (a,p)=aw)(g:r.all f=aw):((a,p)::r).all f=aw:=by rw[gM,h,g];rfl
def Ir(j:q7 dd=aw)(i:Nm nm)(h:n<10^9):rL (jn (dd.J::uW nm n b dd))=ae (dd,uW nm n b dd):=by
 have o:∀x∈[nm],32∉x:=λx d=>aS.mp d▸i.J
 cases dd<;>first|(cases j;done)|skip
 case nth=>exact Cw _ _ rfl (all2 (CZ i (.inl rfl)) (all2 (M6 h) rfl)) o (.inr λx d=>(aL.mp d).elim (λe=>e▸i.J) λd=>aS.mp d▸Np n)
 case number=>exact Cw _ _ rfl (all2 (CZ i (.inl rfl)) rfl) o (.inl oY)
 all_goals exact Cw _ _ rfl (all2 (CZ i (.inl rfl)) rfl) (λx d=>nomatch d) (.inr o)
def WJ(d:Nm nm):rL (jn [E9,nm,b])=ae (.k,[nm,b]):=Cw .k _ rfl (all2 (CZ d (.inr rfl)) rfl) (λx e=>aS.mp e▸d.J) (.inl oY)
def So(h:n<10^9):rL (jn [A8,Ab n])=ae (.e,[Ab n]):=Cw .e _ rfl (all2 (M6 h) rfl) (λx b=>nomatch b) (.inr λx b=>aS.mp b▸Np n)
def Lm(d:Nm nm):rL (jn [D4,nm])=ae (.j,[nm]):=Cw .j _ rfl (all2 (CZ d (.inl rfl)) rfl) (λx b=>nomatch b) (.inr λx b=>aS.mp b▸d.J)
section
variable{cs:Cs}{r:ay}{k:Int}{ph:Kv}{l:gk}{Q:VK}{E:XK}
def E8(h:Dk C H d r k ph)(m:rL l=ae (dd,ar))(j:l.length<=1000)(x:ar[i]? =ae b)(y:dd.Z[i]? =ae A0)(z:AT ph (pA b)=none)(q:∀e,pj H e->Q (tx DB) e):vw D K cs C d (tx l) H Q E:=
 ⟨d,r,k,ph,_,rfl,h,λG I J B=>⟨d,r,k,ph,_,rfl,h, .inr ⟨l,dd,ar,rfl,j,m, .inl ⟨i,b,x,y,z,B _ _ .e q⟩⟩⟩⟩
def YH(h:Dk C H d r k ph)(y:1<=n)(z:n<=4)(q:∀e i,H e=none->FB [d] H i->Dk C i d e n []->Q (tx rP) i):vw (Di cs C) K cs C d (tx (jn [A8,Ab n])) H Q E:=
 w5 h (So oZ) (by have:=DA 0 n oZ;rw[yd];show 5+1+_<=_;lia) rfl λL M b i a j x _ B _=>⟨d,b,r,k,ph,n,rfl,j,x,by lia, .inl ⟨y,z,λe G I f c=>B _ G .ap λJ s=>q e J (a.Z I) ((FB.of a).Z (f.s s)) (c.J s)⟩⟩
def Zo(h:Dk C H d r k ph)(x:Nm nm)(y:1<=k)(z:k<=4)(B:ph.length<=100)(i:AR k b=aw)(q:∀e,FB [r] H e->Dk C e d r k (putK ph (pA nm) (tx b))->Q (tx rP) e):vw (Di cs C) K cs C d (tx (jn [E9,nm,b])) H Q E:=
 w5 h (WJ x) (by have:=Ai i;have:=x.b;rw[yc];show 3+1+_+1+_<=_;lia) rfl λM P a e c j I _ J _=>⟨d,a,r,k,ph,nm,b,rfl,j,y,z,B,I,bw (Ai i) oY, .inl ⟨i,λG f g=>J _ G .ap λL s=>q L ((FB.of c).Z (f.s s)) (g.J s)⟩⟩
def ZU{v:V}(h:Dk C H d r k ph)(j:Nm nm)(x:AT ph (pA nm)=ae v)(q:∀e,FB [r] H e->Dk C e d r k (Bd ph (pA nm))->Q (tx rP) e):vw (Di cs C) K cs C d (tx (jn [D4,nm])) H Q E:=
 w5 h (Lm j) (by have:=j.b;rw[yd];show 4+1+_<=_;lia) (by unfold EG;delta pW.Z;simp[x]) λI J a e b i y _ z _=>⟨d,a,r,k,ph,nm,v,rfl,i,y,x,λG f c=>z _ G .ap λB s=>q B ((FB.of b).Z (f.s s)) (c.J s)⟩
end
def GJ:pW->Bool| .nth=>aw| .number=>aw|_=>au
def zx(dd:pW):su (tx dd.J) [tx [110,116,104],tx [110,117,109,98,101,114]]=GJ dd:=by cases dd<;>rfl
def PM(h:GJ dd=au):dd.J++[32]++nm=jn (dd.J::uW nm n b dd):=by
 cases dd<;>first|(cases h;done)|simp[uW,jn]
def PN(h:GJ dd=aw):dd.J++[32]++nm++[32]++wx n b dd=jn (dd.J::uW nm n b dd):=by
 cases dd<;>first|(cases h;done)|simp[uW,jn,wx]
def HC(dd:pW):dd.J.length<=6:=by cases dd<;>decide
def Mu(h:n<10^9)(d:b.length<=50):(wx n b dd).length<=50:=by
 have:=DA 8 n h
 cases dd<;>first|exact bt _|exact d|(show(Ab n).length<=50;lia)
def IG(i:nm.length<=8)(h:n<10^9)(d:b.length<=50):(jn (dd.J::uW nm n b dd)).length<=1000:=by
 have j:=HC dd;have x:=Mu (dd:=dd) h d
 cases e:GJ dd with
 |false=>rw[<-PM e,aN,aN];show _+1+_<=_;lia
 |true=>rw[<-PN e];simp only[aN,hH];lia
end
def Zp(K:aB):R2:=λx y H Q=>∃d e ph,x= .b d/\y= .b e/\Rd H d (.d ph)/\Rd H e (.d [])/\Q (.c (!decide (ph=[]))) H
def X7(K:aB)(G:X.A.units<iw):pZ X (bu .NotEq) (Zp K):=by
 rintro o s n H x y v u Q I J L ⟨d,e,a,m,l,k,h,q⟩;subst m l
 cases J
 cases L
 obtain⟨_,b,vs,M,g⟩:=CD I.a k;obtain⟨_,i,c,P,f⟩:=CD I.a h;have j:=M.J;have B:=P.J;simp only[dP]at B;have R:c=[]:=bE B.symm;subst R;refine W.keq_ne (knd:=An X.d X.w) (r:=aw) b i g f G (λz=>?_) ⟨.c _,H,I,rfl,?_⟩
 .have S:vs=[]:=bE (by simpa using z);subst S;exact .nil
 .have T:(!(vs.length==([]:List (Key×ai)).length&&aw))= !decide (a=[]):=by
   cases a with
   |nil=>have:vs=[]:=bE (by simpa using j.symm)
         subst this;rfl
   |cons p r=>cases vs with
    |nil=>simp at j
    |cons _ _=>simp
  rw[T];exact q
section
variable{O:pz}{Q:VK}
def Rv(S:H d=ae (.e o (.d ph)))
 (L:∀D j,H D=none->pj H j->j D=ae (.a [])->Q (.b D) j)
 (X:∀ (D:ay) (i:Nat) (k:Key) (v:V) (j:Hp) (R:pz->Bool->Hp->Prop),H D=none->ph[i]? =ae (k,v)->pj H j->(∀a z,pj j z->R a au z)->g (kV k) (AZ own sel O) j λa Y=>tt a Y (R a)):BV (yg d o ph) own sel O g tt te Q H:=by
 intro D M;refine⟨λi m j=>m=ph.length-i/\i<=ph.length/\j D=ae (.a [])/\pj H j,⟨_,rfl,bt _,AF,AL M _⟩,?_⟩;rintro i m Z ⟨rfl,h,T,B⟩
 by_cases G:i<ph.length
 .refine .inr ⟨⟨B _ _ S,G⟩,λx f y=>?_⟩;obtain⟨rfl,k,v,c,rfl⟩:=y;refine X D i k v f (λa b z=>if b=aw then te a z λv P=>∃J,P D=ae (.a J)/\J.length<sizeLine/\∃I,I<ph.length-i/\(I=ph.length-(i+1)/\i+1<=ph.length/\(upd P D (.a (J++[v]))) D=ae (.a [])/\pj H (upd P D (.a (J++[v]))))else∃I,I<ph.length-i/\(I=ph.length-(i+1)/\i+1<=ph.length/\z D=ae (.a [])/\pj H z)) M c B (λa z U=>?_);rw[aP av];exact⟨ph.length-(i+1),by lia,rfl,G,U _ _ T,B.J U⟩
 .have e:i=ph.length:=by lia
  subst e;exact .inl ⟨⟨B _ _ S,rfl⟩,L D Z M B T⟩
def Vb{q l m:TE}(h:q O H λx d=>∃a,x= .b a/\xc d a/\l O d λy e=>m O e λz b=>∃ph k,b a=ae (.d ph)/\y=kV k/\
 (∀v,AT ph k=ae v->Q v (upd b a (.d (Bd ph k))))/\(AT ph k=none->Q z b)):NP q l m O H Q:=h
end
section
variable{cs:Cs}{D:pW->Sp}{k':Int}{ph kvs':Kv}{ar ns:List gk}{due:gk}{Q:VK}{E:XK}
def DN(cs:Cs)(C:ay):pW->Sp
 | .g=>rV C| .a=>qZ cs C| .c=>rC C|d=>Di cs C d
section
variable{k:Int}{l one two:gk}
def zD(h:Di cs C dd vs H Q E):DN cs C dd vs H Q E:=by cases dd<;>first|exact h|exact(show False from h).elim
def GT{v:V}(h:vw (Di cs C) K cs C d v H Q E):vw (DN cs C) K cs C d v H Q E:=by
 obtain⟨z,B,f,i,G,e,k,h⟩:=h;refine⟨z,B,f,i,G,e,k,λI J L M=>?_⟩;obtain⟨P,R,S,j,T,U,x,X⟩:=h I J L M;refine⟨P,R,S,j,T,U,x,X.imp id λz=>?_⟩;obtain⟨l,q,a,Y,Z,hk,p⟩:=z;exact⟨l,q,a,Y,Z,hk,p.imp id λo=>⟨o.1,λs b r m c g y=>zD (o.2 s b r m c g y)⟩⟩
def Ll(j:Nm nm)(y:Nm one):rL (jn [Ex,nm,one])=ae (.g,[nm,one]):=Cw .g _ rfl (all2 (CZ j (.inr rfl)) (all2 (CZ y (.inl rfl)) rfl)) (λx i=>aS.mp i▸j.J) (.inr λx i=>(aL.mp i).elim (λe=>e▸j.J) λi=>aS.mp i▸y.J)
def Fo(j:Nm nm)(y:Nm one)(z:Nm two):rL (jn [Cm,nm,one,two])=ae (.a,[nm,one,two]):=Cw .a _ rfl (all2 (CZ j (.inr rfl)) (all2 (CZ y (.inl rfl)) (all2 (CZ z (.inl rfl)) rfl))) (λx i=>(aL.mp i).elim (λe=>e▸j.J) λi=>aS.mp i▸y.J)
 (.inr λx i=>(aL.mp i).elim (λe=>e▸j.J) λi=>(aL.mp i).elim (λe=>e▸y.J) λi=>aS.mp i▸z.J)
def Sn:rL F3=ae (.c,[]):=Cw .c [] rfl rfl (λx e=>nomatch e) (.inr λx e=>nomatch e)
def yC(w x y z:gk):(jn [w,x,y,z]).length=w.length+1+x.length+1+y.length+1+z.length:=by show(w++32::jn [x,y,z]).length=_;rw[aN,aJ,yc];lia
def wu:List gk:=[[110,97,109,101,115,32],[115,104,111,119],[116,117,114,110,32,97],[114,111,119,32,97]]
def Nq:∀l∈wu,rL l=none/\l.length<=1000:=by decide +kernel
inductive De (k:Int) (ph:Kv):gk->gk->Int->Kv->Prop
 |a (n:Nat) (_:1<=n) (_:n<=4):De k ph (jn [A8,Ab n]) rP n []
 |j (l:gk) (_:l∈wu):De k ph l IJ k ph
 |h (nm a:gk) (_:Nm nm) (_:AR k a=aw):De k ph (jn [E9,nm,a]) rP k (putK ph (pA nm) (tx a))
 |b (nm:gk) (v:V) (_:Nm nm) (_:AT ph (pA nm)=ae v):De k ph (jn [D4,nm]) rP k (Bd ph (pA nm))
 |d (nm:gk) (_:Nm nm) (_:AT ph (pA nm)=none):De k ph (jn [D4,nm]) DB k ph
 |c (nm one a:gk) (_:Nm nm) (_:Nm one) (_:AT ph (pA one)=ae (tx a)) (_:AR k a=aw):De k ph (jn [Ex,nm,one]) rP k (putK ph (pA nm) (tx (ub a)))
 |f (nm one:gk) (_:Nm nm) (_:Nm one) (_:AT ph (pA one)=none):De k ph (jn [Ex,nm,one]) DB k ph
 |i (nm one two a b:gk) (_:Nm nm) (_:Nm one) (_:Nm two) (_:AT ph (pA one)=ae (tx a)) (_:AT ph (pA two)=ae (tx b)) (_:AR k a=aw) (_:AR k b=aw) (_:(a++b).length<=40):De k ph (jn [Cm,nm,one,two]) rP k (putK ph (pA nm) (tx (a++b)))
 |g (nm one two a b:gk) (_:Nm nm) (_:Nm one) (_:Nm two) (_:AT ph (pA one)=ae (tx a)) (_:AT ph (pA two)=ae (tx b)) (_:AR k a=aw) (_:AR k b=aw) (_:40<(a++b).length):De k ph (jn [Cm,nm,one,two]) Fg k ph
 |e (nm one two:gk) (_:Nm nm) (_:Nm one) (_:Nm two) (_:AT ph (pA one)=none\/AT ph (pA two)=none):De k ph (jn [Cm,nm,one,two]) DB k ph
def Zt(h:Dk C H d r k ph)(e:l∈wu)(q:∀i,pj H i->Q (tx IJ) i):vw D K cs C d (tx l) H Q E:=
 ⟨d,r,k,ph,_,rfl,h,λx y z j=>⟨d,r,k,ph,_,rfl,h, .inl ⟨.inl ⟨l,rfl,(Nq l e).2,(Nq l e).1⟩,j _ _ .f q⟩⟩⟩
def YZ{z:gk}{Y:Int}{u:Kv}(h:De k ph l z Y u)(m:Dk C H d r k ph)(V:1<=k)(U:k<=4)(T:ph.length<=100)
 (q:∀D H',(D=r\/H D=none)->FB [d,r] H H'->Dk C H' d D Y u->Q (tx z) H'):vw (DN cs C) K cs C d (tx l) H Q E:=by
 have A:∀H',pj H H'->z≠rP->Y=k->u=ph->Q (tx z) H':=λH' s _ e1 e2=>q r H' (.inl rfl) (.of s) (by rw[e1,e2];exact m.J s);have I:∀ {x:ay},x=d\/x=r->∀ {G:Hp},FB [x] H G->FB [d,r] H G:=λe G f=>f.ld λy hy=>by rw[aS.mp hy];rcases e with rfl|rfl<;>simp
 cases h with
 |a n a b=>exact GT (YH m a b λD G hr f w=>q D G (.inr hr) (I (.inl rfl) f) w)
 |j l a=>exact Zt m a λG s=>A G s oY rfl rfl
 |h j a n1 t=>exact GT (Zo m n1 V U T t λG f w=>q r G (.inl rfl) (I (.inr rfl) f) w)
 |b j v n1 hv=>exact GT (ZU m n1 hv λG f w=>q r G (.inl rfl) (I (.inr rfl) f) w)
 |d j n1 hv=>exact E8 m (Lm n1) (by have:=n1.b;rw[yd];show 4+1+_<=_;lia) (i:=0) (b:=j) rfl rfl hv λG s=>A G s oY rfl rfl
 |c j c a n1 n2 hv t=>
  exact w5 m (Ll n1 n2) (by have:=n1.b;have:=n2.b;rw[yc];show 4+1+_+1+_<=_;lia) (by unfold EG;delta pW.Z;simp[hv]) λX Z B H' O p J _ P _=>⟨d,B,r,k,ph,j,c,a,rfl,p,V,U,T,J,hv,t,λG f w=>P _ G .ap λR s=>q r R (.inl rfl) (I (.inr rfl) ((FB.of O).Z (f.s s))) (w.J s)⟩
 |f j c n1 n2 hv=>exact E8 m (Ll n1 n2) (by have:=n1.b;have:=n2.b;rw[yc];show 4+1+_+1+_<=_;lia) (i:=1) (b:=c) rfl rfl hv λG s=>A G s oY rfl rfl
 |i j c g a b n1 n2 n3 hv o t M N=>
  refine w5 m (Fo n1 n2 n3) (by have:=n1.b;have:=n2.b;have:=n3.b;rw[yC];show 6+1+_+1+_+1+_<=_;lia) (by unfold EG;delta pW.Z;simp[hv,o]) λX Z B H' O p J _ P S=>?_;exact⟨d,B,r,k,ph,j,c,g,a,b,rfl,p,V,U,T,J,hv,o,Ai t,Ai M, .inl ⟨by rw[G0 t M];exact be N,λG f w=>P _ G .ap λR s=>q r R (.inl rfl) (I (.inr rfl) ((FB.of O).Z (f.s s))) (w.J s)⟩⟩
 |g j c g a b n1 n2 n3 hv o t M N=>
  refine w5 m (Fo n1 n2 n3) (by have:=n1.b;have:=n2.b;have:=n3.b;rw[yC];show 6+1+_+1+_+1+_<=_;lia) (by unfold EG;delta pW.Z;simp[hv,o]) λX Z B H' O p J _ P S=>?_;exact⟨d,B,r,k,ph,j,c,g,a,b,rfl,p,V,U,T,J,hv,o,Ai t,Ai M, .inr ⟨by rw[G0 t M];exact ba oZ,S _ _ .d λG s=>A G s oY rfl rfl⟩⟩
 |e j c g n1 n2 n3 hv=>
  have L:(jn [Cm,j,c,g]).length<=1000:=by have:=n1.b;have:=n2.b;have:=n3.b;rw[yC];show 6+1+_+1+_+1+_<=_;lia
  rcases hv with hv|hv
  .exact E8 m (Fo n1 n2 n3) L (i:=1) (b:=c) rfl rfl hv λG s=>A G s oY rfl rfl
  .exact E8 m (Fo n1 n2 n3) L (i:=2) (b:=g) rfl rfl hv λG s=>A G s oY rfl rfl
theorem KD:∀ (e:List gk),(BQ [32] e).length<=e.flatten.length+e.length/\∀c∈BQ [32] e,c=32\/∃x∈e,c∈x
 |[]=>⟨bt _,λc h=>nomatch h⟩
 |[x]=>⟨by simp[BQ],λc h=> .inr ⟨x,aG,by simpa[BQ]using h⟩⟩
 |x::y::r=>by
  obtain⟨j,i⟩:=KD (y::r);refine⟨?_,λc h=>?_⟩
  .simp only[BQ,cu,aN,aJ,dP]at*;lia
  .have h:(c∈x\/c=32)\/c∈BQ [32] (y::r):=by simpa[BQ,or_assoc]using h
   rcases h with(h|h)|h
   .exact .inr ⟨x,aG,h⟩
   .exact .inl h
   .exact(i c h).imp id λ⟨z,a,b⟩=>⟨z,aM _ a,b⟩
def R6(i:∀n∈ns,Nm n)(z:ns.length<=63):(vF ns).length<=1000/\(vF ns).head?≠ae 9:=by
 unfold vF
 split
 .exact⟨by decide,by decide⟩
 .obtain⟨B,j⟩:=KD ns;have:=GO λn h=>(i n h).b;refine⟨by lia,λe=>?_⟩;rcases j 9 (jT e)with h|⟨x,y,h⟩
  .cases h
  .exact absurd ((i x y).d 9 h) oY
inductive As (k:Int) (ph:Kv):gk->gk->Prop
 |a (ns:List gk) (_:vA ph ns) (_:∀n∈ns,Nm n):As k ph F3 (vF ns)
 |c (dd:pW) (nm b:gk) (n:Nat) (_:q7 dd=aw) (_:Nm nm) (_:n<10^9) (_:b.length<=50) (_:AT ph (pA nm)=none):As k ph (jn (dd.J::uW nm n b dd)) DB
 |b (dd:pW) (nm b a:gk) (n:Nat) (t:gk) (_:q7 dd=aw) (_:Nm nm) (_:n<10^9) (_:b.length<=50) (_:AT ph (pA nm)=ae (tx a)) (_:AR k a=aw) (_:qi k a n b dd t):As k ph (jn (dd.J::uW nm n b dd)) t
def Wf(h:As k ph l due)(m:Dk C H d r k ph)(J:1<=k)(L:k<=4)(q:∀y,pj H y->Q (tx due) y):vw (DN cs C) K cs C d (tx l) H Q E:=by
 cases h with
 |a p M e=>
  obtain⟨R,S⟩:=R6 e (Nat.le_of_lt_succ M.J.2);exact⟨d,r,k,ph,_,rfl,m,λZ O T A=>⟨d,r,k,ph,_,rfl,m, .inr ⟨F3, .c,[],rfl,by decide,Sn, .inr ⟨λi a h=>by simp at h,λD o y w f v U=>⟨d,o,r,k,ph,p,rfl,m.J f,M,λn h=>(e n h).b,λG s=>T _ G R S λX Y=>q X ((f.J s).J Y)⟩⟩⟩⟩⟩
 |c c g b n j N e z B=>
  exact E8 m (Ir j N e) (IG N.b e z) (i:=0) (b:=g) (by cases c<;>rfl) (by cases c<;>first|rfl|cases j) B q
 |b c g b a n t j N e z B P x=>
  exact GT (ZY m J L (Ir j N e) j (IG N.b e z) e oZ B P λu G s I=>by rw[qi.J J L (Ai P) I x];exact q G s)
end
def De.J{k:Int}{l:gk}(h:De k ph l due k' kvs')(d:1<=k)(e:k<=4)(i:Rw k ph):1<=k'/\k'<=4/\Rw k' kvs'/\kvs'.length<=ph.length+1/\due.length<=20:=by
 cases h with
 |a n a b=>exact⟨by lia,by lia,Rw.ld _,bt _,by decide⟩
 |h x a c j=>exact⟨d,e,i.mp c j,Do _ _ _,by decide⟩
 |b x v c z=>exact⟨d,e,i.ap,gR (jX _ _),by decide⟩
 |c x f a c m z j=>exact⟨d,e,i.mp c (Su d e j),Do _ _ _,by decide⟩
 |i x f g a b c m o z B j G y=>exact⟨d,e,i.mp c (by rw[G0 j G];exact be y),Do _ _ _,by decide⟩
 |_=>exact⟨d,e,i,f' _,by decide⟩
def Ww{k:Int}(h:Dk C H d r k ph)(N:Nm nm)(x:AT ph (pA nm)=ae (tx a))(z:a.length<=40)(q:∀e,pj H e->Q (tx (rK a)) e):tO (DN cs C) K cs C ([.b d,tx (jn [Ig,nm])]++[]) H Q E:=
 ⟨d,r,k,ph,_,rfl,h, .inr ⟨_, .show,[nm],rfl,IG (dd:= .show) (b:=[]) (n:=0) N.b oY oY,Ir (dd:= .show) (b:=[]) (n:=0) rfl N oY, .inr ⟨λi b y B=>by
   cases i with
   |zero=>cases y;rw[x];rfl
   |succ i=>simp at y,λI f e J c L j=>⟨d,f,r,k,ph,nm,a,rfl,h.J c,j,x,by lia,λG s=>q G (c.J s)⟩⟩⟩⟩
inductive uI(C:ay):Type
 |mk (d r:ay) (k:Int) (ph:Kv) (ss:hE) (_:vs=[.b d]) (_:Dk C H d r k ph) (_:ph.map (·.1)=ss.map Sum.inr) (_:ss.length<64) (_:∀p ns H',H p=none->pj H H'->H' p=ae (.a (ns.map tx))->vA ph ns->Q (.b p) H')
def Xl{k:Int}(i:1<=k)(j:k<=4)(b:Rw k ph)(nm:gk):∃a,(AT ph (pA nm)).getD (tx [40,41])=tx a/\AR k a=aw/\(AT ph (pA nm)=none\/AT ph (pA nm)=ae (tx a)):=by
 cases e:AT ph (pA nm)with
 |none=>
  refine⟨[40,41],rfl,?_, .inl rfl⟩;have:k=1\/k=2\/k=3\/k=4:=by lia
  rcases this with rfl|rfl|rfl|rfl<;>decide
 |some v=>
  obtain⟨a,rfl,d⟩:=b.Z e;exact⟨a,rfl,d, .inr rfl⟩
def GI(h:Po H p)(f:FB bad H H')(n:p∉bad):Po H' p:=let⟨a,b,c,e⟩:=h;⟨a,b,c,f _ _ e n⟩
inductive vi:Type
 |mk (p st q nl:ay) (k:Int) (ph:Kv) (ns:List gk) (m:Int) (_:vs=[.b p, .b st, .b nl, .a m]) (_:Po H p) (_:FJ H st q k ph) (_:H nl=ae (.a (ns.map tx))) (_:nl≠p) (_:st≠q) (_:1<=k) (_:k<=4) (_:Rw k ph) (_:ph.length<=100) (_:∀n∈ns,Nm n) (_:1<=ns.length) (_:ns.length<=10) (_:1<=m) (_:m<=40)
   (_:∀T l due q' k' kvs' H',Po H' p->FJ H' st q' k' kvs'->(q'=q\/H q'=none)->st≠q'->(∃o,H' q=ae o)->FB [p,st,q] H H'->H' T=ae (.b [tx l,tx due])->De k ph l due k' kvs'->Q (.b T) H')
inductive uM:Type
 |mk (p st q nl:ay) (k:Int) (ph:Kv) (ns:List gk) (_:vs=[.b p, .b st, .b nl]) (_:Po H p) (_:FJ H st q k ph) (_:H nl=ae (.a (ns.map tx))) (_:nl≠p) (_:1<=k) (_:k<=4) (_:Rw k ph) (_:ph.length<64) (_:∀n∈ns,Nm n) (_:1<=ns.length) (_:ns.length<=10)
   (_:∀T l due H',Po H' p->pf p H H'->H' T=ae (.b [tx l,tx due])->As k ph l due->Q (.b T) H')
inductive vP(C:ay):Type
 |mk (d r q:ay) (k:Int) (ph:Kv) (_:vs=[.b d, .b q]) (_:Dk C H d r k ph) (_:H q=ae (.d ph)) (_:r≠q) (_:1<=k) (_:k<=4) (_:Rw k ph) (_:ph.length<64) (_:∀H',FB [q] H H'->Q (.c aw) H')
structure wD where
 r:ay
 q:ay
 k:Int
 a:Kv
structure sP (C:ay) (H:Hp) (n:Nat) (d st:ay) (x:wD):Prop where
 b:Dk C H d x.r x.k x.a
 a:FJ H st x.q x.k x.a
 c:1<=x.k
 e:x.k<=4
 f:Rw x.k x.a
 g:x.a.length<=n
 i:x.r≠st
 h:x.r≠x.q
 j:st≠x.q
structure vE (d st d' st':ay) (x y:wD):Prop where
 e:d≠d'
 f:x.r≠y.r
 a:x.r≠st'
 j:x.r≠y.q
 h:st≠st'
 i:st≠y.q
 k:x.q≠y.q
 c:st≠y.r
 b:x.q≠y.r
 g:x.q≠st'
section
variable{st d' st':ay}{x y x':wD}
def vE.J(h:vE d st d' st' x y):vE d' st' d st y x:=⟨h.e.symm,h.f.symm,h.c.symm,h.b.symm,h.h.symm,h.g.symm,h.k.symm,h.a.symm,h.j.symm,h.i.symm⟩
theorem sP.J(h:sP C H n d st x)(s:pj H H'):sP C H' n d st x:=⟨h.b.J s,⟨s _ _ h.a.1,s _ _ h.a.2⟩,h.c,h.e,h.f,h.g,h.i,h.h,h.j⟩
def sP.ld{m:Nat}(h:sP C H n d st x)(e:n<=m):sP C H m d st x:=⟨h.b,h.a,h.c,h.e,h.f,bw h.g e,h.i,h.h,h.j⟩
def sP.sL(h:sP C H n d st x){a:ay}{k:Kv}(e:H a=ae (.d k)):d≠a:=λz=>by
 obtain⟨⟨_,b⟩,_⟩:=h.b;rw[z,e]at b;cases b
def sP.Z(h:sP C H n d st x)(g:sP C H n d' st' y)(a:vE d st d' st' x y)(f:FB [st,x.q,d,x.r] H H'):sP C H' n d' st' y:=by
 obtain⟨⟨i,j⟩,z⟩:=g.b;obtain⟨b,e⟩:=g.a;have B:=g.sL h.a.1;have G:=g.sL h.a.2;have I:=g.sL h.b.2;have J:=h.sL g.b.2;have L:=h.sL b;have M:=h.sL e;exact⟨⟨⟨i,f _ _ j (by simp[B,G,I,a.e.symm])⟩,f _ _ z (by simp[a.c.symm,a.b.symm,J.symm,a.f.symm])⟩,⟨f _ _ b (by simp[a.h.symm,a.g.symm,L.symm,a.a.symm]),f _ _ e (by simp[a.i.symm,a.k.symm,M.symm,a.j.symm])⟩,g.c,g.e,g.f,g.g,g.i,g.h,g.j⟩
def vE.Z(a:vE d st d' st' x y)(g:sP C H n d' st' y)(b:x'.r=x.r\/H x'.r=none)(i:x'.q=x.q\/H x'.q=none):vE d st d' st' x' y:=by
 have z:∀ {u v:ay} {o:HO},H u=none->H v=ae o->u≠v:=λh e w=>by rw[w,e]at h;cases h
 obtain⟨⟨I,J⟩,j⟩:=g.b;obtain⟨B,G⟩:=g.a;refine⟨a.e,?_,?_,?_,a.h,a.i,?_,a.c,?_,?_⟩
 .rcases b with e|e
  .rw[e];exact a.f
  .exact z e j
 .rcases b with e|e
  .rw[e];exact a.a
  .exact z e B
 .rcases b with e|e
  .rw[e];exact a.j
  .exact z e G
 .rcases i with e|e
  .rw[e];exact a.k
  .exact z e G
 .rcases i with e|e
  .rw[e];exact a.b
  .exact z e j
 .rcases i with e|e
  .rw[e];exact a.g
  .exact z e B
end
structure W5 (C:ay) (H:Hp) (n:Nat) (D S L:ay) (dd ss:Nat->ay) (ns:List gk) (X:Nat->wD):Prop where
 o:∀i,i<2->sP C H n (dd i) (ss i) (X i)
 a:vE (dd 0) (ss 0) (dd 1) (ss 1) (X 0) (X 1)
 b:H D=ae (.a [.b (dd 0), .b (dd 1)])
 c:H S=ae (.a [.b (ss 0), .b (ss 1)])
 d:H L=ae (.a (ns.map tx))
section
variable{m:Nat}{D L:ay}{dd ss:Nat->ay}{X:Nat->wD}
theorem W5.J(h:W5 C H n D S L dd ss ns X)(s:pj H H'):W5 C H' n D S L dd ss ns X:=⟨λi b=>(h.o i b).J s,h.a,s _ _ h.b,s _ _ h.c,s _ _ h.d⟩
def W5.mp(h:W5 C H n D S L dd ss ns X)(e:n<=m):W5 C H m D S L dd ss ns X:=⟨λi b=>(h.o i b).ld e,h.a,h.b,h.c,h.d⟩
def W5.ap(h:W5 C H n D S L dd ss ns X)(k:i<2):vE (dd i) (ss i) (dd (1-i)) (ss (1-i)) (X i) (X (1-i)):=by
 have:i=0\/i=1:=by lia
 rcases this with rfl|rfl
 .exact h.a
 .exact h.a.J
theorem W5.Z(h:W5 C H n D S L dd ss ns X)(s:i<2){x':wD}(y:x'.r=(X i).r\/H x'.r=none)(B:x'.q=(X i).q\/H x'.q=none)(f:FB [ss i,(X i).q,dd i,(X i).r] H H')(d:sP C H' (n+1) (dd i) (ss i) x'):W5 C H' (n+1) D S L dd ss ns (λj=>if j=i then x' else X j):=by
 have A:=h.ap s;have g:=h.o (1-i) oZ;have o:=h.o i s;have p:=(o.Z g A f).ld (f' n);have x:=A.Z g y B;have c:∀ {a:ay} {k:gr},H a=ae (.a k)->H' a=ae (.a k):=fun{a k} e=>f _ _ e (by
  have l:∀ {b:ay} {m:Kv},H b=ae (.d m)->a≠b:=fun{b m} z w=>by rw[w,z]at e;cases e
  obtain⟨⟨M,G⟩,I⟩:=o.b;have t:a≠dd i:=λw=>by rw[w,G]at e;cases e
  simp[l o.a.1,l o.a.2,l I,t])
 have:i=0\/i=1:=by lia
 rcases this with rfl|rfl
 .refine⟨λj J=>?_,x,c h.b,c h.c,c h.d⟩;have:j=0\/j=1:=by lia
  rcases this with rfl|rfl
  .exact d
  .exact p
 .refine⟨λj J=>?_,x.J,c h.b,c h.c,c h.d⟩;have:j=0\/j=1:=by lia
  rcases this with rfl|rfl
  .exact p
  .exact d
def W5.at(h:W5 C H n D S L dd ss ns X)(k:i<2):[V.b (dd 0), .b (dd 1)][i]? =ae (.b (dd i))/\[V.b (ss 0), .b (ss 1)][i]? =ae (.b (ss i)):=by
 have:i=0\/i=1:=by lia
 rcases this with rfl|rfl<;>exact⟨rfl,rfl⟩
end
abbrev uY(G:Hp)(st h:ay):Hp:=upd (upd (upd G st (.d [])) h (.d [])) st (.d (Dx [] [(pA A8, .a 4),(pA [107,101,112,116], .b h)]))
def NU{G:Hp}{st h:ay}(d:G st=none)(e:upd G st (.d []) h=none):pj G (uY G st h)/\FJ (uY G st h) st h 4 []/\st≠h/\G h=none:=by
 have i:G h=none:=(AL d _).Z e;have n:st≠h:=AQ AF e;exact⟨λb u z=>by unfold uY;rw[AG (AQ z d),AG (AQ z i),AG (AQ z d)];exact z,⟨AF,by unfold uY;rw[AG n.symm];exact AF⟩,n,i⟩
end
end Lake
end
open Int renaming toNat_natCast->fb
open List renaming length_map->az,getElem?_eq_getElem->al,length_singleton->hH,getD_eq_getElem?_getD->ag,getElem?_map->ao,length_append->aN,mem_singleton->aS,map_append->b0,length_take->cU,range->aH,mem_append->cS,getElem?_eq_some_iff->aR,mem_of_getElem?->cE,map_map->dC,length_cons->aJ,getElem?_range->bb,getElem_mem->d2,mem_of_mem_take->fR,length_range->dt
open Nat renaming lt_of_le_of_lt->dE,le_trans->bw
open Option renaming some->ae,map_eq_some_iff->dj,toList_some->oX
open Or renaming inl->lY
open PyProof.Rows renaming boot_isinstance->oM,boot_int->oP,boot_str->oR
open PySem.F renaming plainAttrs_list->oN,plainAttrs_str->oO,type_list_append->oS,slot_list_append->oU,type_str_join->oV,slot_str_join->oW
open PySem.PassesOwn renaming never->oQ
open PySem PySem.Spec PyProof.Rows
variable{XP:(Str->Option Value)->Heap->Prop}{C S d p r:Addr}{A:Around}{dd:pW}{env:Env}{e tg:Expr}{fd:FuncData}{base h':Heap}{lo:Int}{pb:List (Addr×Obj)}{L:List hO}{bad ch:List Addr}{outer:List Env}{elts es ifs:List Expr}{ms ns:hO}{a b nm sel:gk}{own:hE}{us ys:List Value}{M:Model}{c ep i j n t':Nat}{ad:Nat->Addr}{f:Nat->Int}{o:Obj}{pos' tpos:Pos}{P prog:Program}{K:W.Frag}{R:Result->Shared->Prop}{scope:Scope}{pl:Sem Bool}{t:SetTable}{st:Stmt}{qual x:Str}{kindOf:Str->Option NameKind}{mg:Str->Option Value}{α:Type}{E Q:Value->Shared->Prop}{w:World}
variable{H H' H1:Hp}{ph:List (Key×V)}{vs xs:gr}
variable{X:Cx}
variable{D:Ends}{trs:List (TE×TE)}{ta te:TE}{tb:TS}{tt:TT}
variable{g:TG}
variable{sp:Sp}
set_option maxHeartbeats 8000000
open Lake
namespace Bk
variable{loose:hE}{K:Params->W.Frag}{q:Program}{YP:World->Heap->Prop}
def top(i:Nat):Stmt:=PySem.Challenge.pw_bracketrows_k50_whole_a_long_day.main.body.getD i (.Pass ⟨0,0,0,0⟩)
def v0:Option V->Nat|ae (.a b)=>b.toNat|ae (.e x)=>x.cps.toList.length|_=>0
def LF:List (Str×Stmt):=("is_whole",top 20)::("check_kinds",top 21)::("is_line",top 22)::("check_line",top 23)::("matched",top 24)::("is_right",top 25)::("weighed_places",top 27)::("counted_places",top 28)::("pair_sum",top 29)::("no_sums",top 30)::("span_sums",top 31)::("whole_sum",top 32)::("check_filling",top 33)::("pairs_with_rest",top 34)::("bracket_sums",top 35)::("how_many",top 37)::("may_open",top 39)::("depths_before",top 40)::("depths_by_stop",top 41)::("depths",top 42)::("may_go_on",top 43)::("fewest_more",top 44)::("opens",top 46)::("nth_filling",top 48)::("is_right_filling",top 49)::("number_of",top 50)::("likelier",top 52)::("likeliest_pair",top 53)::("round_about",top 54)::("one_behind_the_other",top 55)::("likeliest_spans",top 56)::("first_likeliest",top 57)::("needs_change",top 61)::("places_to_change",top 62)::("fewest_changes",top 63)::("other_one",top 65)::("turned",top 66)::("filled",top 68)::("sure_places",top 69)::("is_name",top 79)::("is_number",top 80)::("has_form",top 81)::("parted",top 82)::("known_words",top 83)::("yes_or_no",top 84)::("shown",top 85)::("say_kinds",top 86)::("say_row",top 87)::("say_turn",top 88)::("say_behind",top 89)::("say_drop",top 90)::("say_show",top 91)::("say_right",top 92)::("say_may",top 93)::("say_many",top 94)::("say_nth",top 95)::("say_number",top 96)::("say_sure",top 97)::("say_fewest",top 98)::("say_more",top 99)::[("say_names",top 100),("_law_pool",top 104),("_law_draw",top 105),("_law_right_row",top 106),("_law_signs",top 107),("_law_bent",top 108),("_law_line",top 109),("_law_said",top 110),("_law_names",top 111),("_law_is_line",top 112),("_law_shown",top 113),("_law_word",top 114),("_law_sure",top 115),("_law_told_of",top 116),("_law_due",top 117),("_law_question",top 118),("_law_deed",top 119),("_law_asked",top 120),("_law_end",top 121),("law",top 122)]
def LM(b d:Addr):List (Str×Addr×Str×Stmt):=[("Course.__init__",b,"__init__",inClass (top 47) 0),("Course.many_in_all",b,"many_in_all",inClass (top 47) 1),("Course.many_closing",b,"many_closing",inClass (top 47) 2),("Course.many_with",b,"many_with",inClass (top 47) 3),("Course.take",b,"take",inClass (top 47) 4),("Desk.__init__",d,"__init__",inClass (top 102) 0),("Desk.say",d,"say",inClass (top 102) 1),("Desk.names",d,"names",inClass (top 102) 2)]
def LN:hE:=["ValueError","all","any","bool","enumerate","int","isinstance","len","list","max","min","range","reversed","set","sorted","str","sum","zip"]
def LG(b d e:Addr):List (Str×V):=[("OPENING",tx [40,91,123,60]),("CLOSING",tx [41,93,125,62]),("KINDS", .b b),("BRACKETS",tx [40,41,91,93,123,125,60,62]),("UNKNOWN",tx [63]),("MOST_SIGNS", .a 40),("KEPT", .a 2),("CHANGED", .a 1),("DONE",tx [111,107]),("NOTHING",tx [110,111,110,101]),("FIRST_KINDS", .a 4),("LETTERS",tx [97,98,99,100,101,102,103,104,105,106,107,108,109,110,111,112,113,114,115,116,117,118,119,120,121,122]),("MOST_LETTERS", .a 8),("FIGURES",tx [48,49,50,51,52,53,54,55,56,57]),("MOST_FIGURES", .a 9),("FORMS", .b d),("DEEDS", .b e)]
def LC(cs:Cs):List (Str×Addr):=[("RowError",cs.l),("NoKinds",cs.d),("NoLine",cs.e),("NotRight",cs.b),("NoTree",cs.k),("NoNumber",cs.c),("NoWeights",cs.f),("NoPlace",cs.i),("NoFilling",cs.a),("TooMany",cs.j),("NoName",cs.g),("NoRow",cs.h)]
structure Txt (P:Program) (w:World) (K:W.Frag) (mg:Str->Option Value) (aK:Addr) (cs:Cs) (aC aE aF aD:Addr):Prop where
 f:AllP (pJ K mg) LF
 m:AllP (tG K) (LM aC aE)
 n:∀x∈LN,mg x=none
 g:AllP (ze mg) (LG aK aF aD)
 c:AllP (zi K mg) (LC cs)
 k:rO K aK [tx [40,41],tx [91,93],tx [123,125],tx [60,62]]
 F:Oi P w K aF
 D:Oj P w K mg aD
 C:Own K mg "Course" aC ["at","closings","places","rests","sums"]
 E:Own K mg "Desk" aE ["k","rows"]
 t:Iu K cs=true
set_option hygiene false
local macro_rules|`(tactic|and_intros)=>`(tactic|exact⟨rfl,by first|exact .inl rfl|exact .inr (.inl rfl)|exact .inr (.inr rfl),oY,oY⟩)
set_option hygiene true
section
variable{K:W.Frag}{aK aC aE aF aD:Addr}{cs:Cs}{k:Nat}(T:Txt P w K mg aK cs aC aE aF aD)
set_option hygiene false
private def Z8(s:String):Array (Lean.TSyntax `Lean.Parser.Tactic.tacticSeq):=((s.splitOn " ").map λs=>.mk (.node1 .none `Lean.Parser.Tactic.tacticSeq (.node1 .none `Lean.Parser.Tactic.tacticSeq1Indented (Lean.mkNullNode #[.node2 .none `Lean.Parser.Tactic.apply (Lean.mkAtom "apply") (Lean.mkIdent (.mkSimple s))])))).toArray
local macro_rules|`(tactic|walk_at"s")=>let a:=Z8 "ZH ZG VM Yl s_try0 Yu Yk Xf s_break XU XT ZZ Yv Y5 ZI Xk Yq W7 Ve s_truN Y9 Y8 s_eqB Yy Yw s_neB Y2 UB Za UC W2 VO Y0 Yz XO s_intI ZE VU s_irng2 Xj VX XH VR XQ VY XS s_rev s_revI XN Yi OL VP Xe Vc Xa Xb Xd Xc Yn XG ZC ZA s_slc VJ Yj Vd s_LR Y7 Zf s_par s_sset XE XC XD XX XY D7";let b:=Z8 "VW s_revT NY BO Il";let c:=Z8 "ZF VS";`(tactic|first
|with_reducible first$[|$a]*
|((with_reducible first$[|$b]*);first|assumption|exact small oZ|exact small (by simp only[aN,aJ,List.length_nil];lia))
|((with_reducible first$[|$c]*);exact rfl)
|((with_reducible apply Zb);first|exact (show (0:Int)<_ from oZ)|exact⟨oZ,oZ⟩|exact⟨oY,oY,oY⟩)
|((with_reducible apply XB);first|exact .inl ⟨oZ,oZ⟩|exact .inr ⟨oZ,oZ⟩)
|(with_reducible apply Yr;intro _ _ _ _ _ _)
|refine YE (by assumption) ?_
|refine leaveV (by assumption) ?_)
local macro_rules|`(tactic|walk_at"s")=>let a:=Z8 "Ys Zg";let b:=Z8 "W6 Zd Xi Zi W9 XW NZ W8 W0 Y1 Vg Y3 Zh XZ Ym Wz Y6 W1 Zm Zc Yt Xh Va VT";`(tactic|first
|((with_reducible apply W3);exact rfl;exact rfl)
|((with_reducible first$[|$a]*);exact rfl)
|with_reducible first$[|$b]*)
local macro_rules|`(tactic|walk_at"s")=>let a:=Z8 "Yh ZD Zj W4 Ze";let b:=Z8 "Zl Xg Yo OM Yp Cg";`(tactic|first
|with_reducible apply zo
|((with_reducible first$[|$a]*);exact rfl)
|with_reducible first$[|$b]*
|((with_reducible refine AK (xs:=?_) (v:=?_) ?_ ?_ ?_);rotate_left 2;assumption;exact rfl))
local macro_rules|`(tactic|ext)=>`(tactic|skip)
local macro_rules|`(tactic|ext)=>`(tactic|first|(walk_at"s";ext)|fail)
local macro_rules|`(tactic|show $e:term)=>`(tactic|(ext;refine $e))
local macro_rules|`(tactic|obtain $p:rcasesPatMed:=$e)=>do
 if p.raw[0][0][1].getNumArgs<7 then Lean.Macro.throwUnsupported
 `(tactic|(refine Zx λZ9 yZ=>?_;rcases $e:term with $p:rcasesPatMed<;>(refine yZ ?_;clear yZ Z9)))
local macro_rules|`(tactic|and_intros)=>`(tactic|exact λ_ _ _ _ _ _=>by first|exact yo λ_ _=>rfl|exact yp λ_=>rfl|exact ym λ_ _ _=>rfl|exact yR λ_ _ _ _=>rfl|exact yq rfl)
set_option hygiene true
include T
def Txt.N(i:Nat)(h:LN[i]? =ae x<|>n'):mg x=none:=T.n x (cE h)
def Jn:qp P w K mg base (k+1) "is_whole" ["thing"] (ue K):=pJ.u (T.f.J 0) (pI ["thing"]) λc _ _ h=>by
 obtain⟨x,a,rfl,d,i,q⟩:=h;refine⟨_,(AE (AJ (Er (Aj (Dr K) rfl (T.N 6) oM (pk l' (D8 (T.N 5) oP))) (DY (Nh (Aj (Dr K) rfl (T.N 6) oM (pk l' (D8 (T.N 3) PyProof.Rows.boot_bool)))))))),?_⟩;ext;have e:a="NoneType"\/a="bool"\/a="int"\/a="str"\/a="list"\/a="tuple"\/a="dict":=by simpa[CJ]using i
 rcases e with rfl|rfl|rfl|rfl|rfl|rfl|rfl
 .refine Bw (b:=false) d dp (Cg (FG ?_));exact q
 .refine Bw (b:=true) d dp (Cg (CQ ?_));show Bw (b:=true) d dp (Cg ?_);exact q
 .refine Bw (b:=true) d dp (Cg (CQ ?_));show Bw (b:=false) d dp (Cg ?_);exact q
 .refine Bw (b:=false) d dp (Cg (FG ?_));exact q
 .refine Bw (b:=false) d dp (Cg (FG ?_));exact q
 .refine Bw (b:=false) d dp (Cg (FG ?_));exact q
 .refine Bw (b:=false) d dp (Cg (FG ?_));exact q
def JX:Ak P w K mg base (k+2) "check_kinds" ["k"] (T8 K cs):=pJ.J (T.f.J 1) (pI ["k"]) λn H j h=>by
 refine⟨_,(AE (AV (PW.J (BX (Bb (BD K (AN (Jn T) j (pe l')))) (Ba (Bb (FX Ce Ce AC l' (Al K (T.N 7) (pe (Ac (T.g.J 2))))))))) (AE (DR (T.c.J 1).2 (T.c.J 1).1 j.a Dc (pe DI))) AW)),?_⟩;rcases h with⟨x,rfl,d,o,q⟩|⟨v,rfl,⟨a,m,hp,l⟩,r⟩
 .show KM ?_;show pL rfl ?_;show pK (be d) ?_;show BN (.inr T.k.J) ?_;show pL (by simp;lia) ?_;ext;exact q
 .show⟨v,a,rfl,m,hp,?_⟩;ext
  by_cases e:a="int"
  .subst e;obtain⟨i,rfl⟩:=m.Z rfl
   .have l:=l i rfl;rw[be rfl];refine pL rfl ?_;ext
    by_cases d:1<=i
    .refine pK (be d) ?_;show BN (.inr T.k.J) ?_;show pK (by simp;lia) ?_;ext;exact⟨small oY,λy b=>r y H (pj.ap H) b⟩
    .refine pL (ba d) ?_;show pK rfl ?_;ext;exact⟨small oY,λy b=>r y H (pj.ap H) b⟩
  .rw[ba e];refine pK rfl ?_;show pK rfl ?_;ext;exact⟨small oY,λy b=>r y H (pj.ap H) b⟩
def J8:Ak P w K mg base (k+3) "is_line" ["k","thing"] (MT K cs):=pJ.J (T.f.J 2) (pI ["k","thing","signs"]) λs H M h=>by
 refine⟨_,(AD (Au (Aa (JX T) M A5 (pe l'))) (AD (AV (PW.J (BX (Bb (BD K (Aj (Dr K) rfl (T.N 6) oM (pk ma (D8 (T.N 15) oR))))) (Ba (AS Cf (Al K (T.N 7) (pe ma)) (Ac (T.g.J 5)))))) (AE (AJ Cz)) AW) (AD (Cu (i:=2) s rfl (Or.inr rfl) (AI AM (AI AM (A1 (A7 K) (Ac (T.g.J 0)) A4 (A3 l')) (A1 (A7 K) (Ac (T.g.J 1)) A4 (A3 l'))) (Ac (T.g.J 4)))) (AE (AJ (Aj (EV K rfl) rfl (T.N 1) PyProof.Rows.boot_all (pe (BE (own:=["sign"]) (sel:=[2]) (A9 (osc:=(AX (top 22))) (N:=["k","thing","signs"]) bg) rfl (Cb ma) (λ_ _ _ _ _=>(Am (i:=0) (show(["sign","signs"]:hE).Nodup from by decide +kernel) rfl (lY rfl))) (Av oY) (λ_ _ _ _ _=>BC) (λ_ _ _ _ _=>(BP (Cv K) l' ma dp)))))))))),?_⟩;rcases h with⟨kk,x,rfl,O,E,u⟩|⟨t,v,rfl,hk,r⟩
 rotate_left
 .ext;exact .inr ⟨t,rfl,hk,r.J (pj.ap H)⟩
 .show .inl (Kn O E ?_);ext;rcases u with⟨a,rfl,ha,q⟩|⟨l,C,hp,A,q⟩
  .refine Bw (b:=true) (pQ.b _) dp ?_;show pL rfl ?_;show qu (λQ=>?_) (λQ=>?_)
   .ext;have e:AR kk a=false:=by unfold AR;rw[ba oZ,Bool.false_and]
    have:=q H (pj.ap H);rw[e]at this;exact this
   .ext;rw[Bn _ oZ,Bn _ oZ];have X:((([40,91,123,60]:gk)).take kk.toNat).length<=4:=by rw[cU];exact Nat.min_le_right _ _
    have Y:((([41,93,125,62]:gk)).take kk.toNat).length<=4:=by rw[cU];exact Nat.min_le_right _ _
    first|refine BO (small oZ) ?_ |skip
    ext
    first|refine BO (small (by rw[aN,hH];lia)) ?_ |skip
    show DG (n:=a.length) (λD i y j=>y=((a.take i).map λc=>V.c (decide (c∈sgn kk)))/\pf D H j) (λD B=>⟨rfl,pf.Z (AL B _)⟩) (λD i y j _ m _ _=>by simpa[tL]using m) (λD y j B d L ⟨e,G⟩=>⟨by simp[tL],?_⟩) ?_
    .rw[List.take_length]at e;subst e;have R:pq K j D ((a.map λc=>decide (c∈sgn kk)).map V.c):=by
      rw[dC];exact pq.J d
     refine E5 R ?_;have S:((a.map λc=>decide (c∈sgn kk)).all id)=AR kk a:=by
      unfold AR;rw[be oZ,Bool.true_and,List.all_map]
      rfl
     rw[S];exact q j λb o z=>G b o z (AQ z B)
    .rintro D i y j x Z B m d L ⟨e,G⟩ ⟨rfl,c,U,rfl⟩;have I:a[i]? =ae c:=by simpa using U
     show BK 0 (tx [c]) _ _ _;show CQ ?_;show B8 m (small oZ) d L ⟨?_,G.J pf.ap⟩;rw[e,List.take_add_one,I];simp only[oX,b0,List.map_cons,List.map_nil]
     rfl
  .have J:l="NoneType"\/l="bool"\/l="int"\/l="list"\/l="tuple"\/l="dict":=by
    have:l="NoneType"\/l="bool"\/l="int"\/l="str"\/l="list"\/l="tuple"\/l="dict":=by simpa[CJ]using hp
    rcases this with z|z|z|z|z|z|z
    .exact .inl z
    .exact .inr (.inl z)
    .exact .inr (.inr (.inl z))
    .exact absurd z A
    .exact .inr (.inr (.inr (.inl z)))
    .exact .inr (.inr (.inr (.inr (.inl z))))
    .exact .inr (.inr (.inr (.inr (.inr z))))
   have p:W.kitOne K (.type l) (.type "str")=ae false:=by
    rcases J with rfl|rfl|rfl|rfl|rfl|rfl<;>with_unfolding_all rfl
   refine Bw (b:=false) C p ?_;show pK rfl ?_;show pK rfl ?_;ext;exact q
def CG:Ak P w K mg base (k+4) "check_line" ["k","row"] (Hk K cs rb):=pJ.J (T.f.J 3) (pI ["k","row"]) λs H b h=>by
 refine⟨_,(AE (AV (Bb (BD K (Aa (J8 T) b A5 (pk l' ma)))) (AE (DR (T.c.J 2).2 (T.c.J 2).1 b.a Dc (pe DI))) AW)),?_⟩;rcases h with⟨o,a,rfl,l,g,m,q⟩|⟨n,v,rfl,⟨hk,r⟩|⟨o,rfl,l,g,p,r⟩⟩
 .have z:=Ai m;show .inl (Lk l g oZ (λe i=>?_));show pL (by rw[m];rfl) ?_;ext;exact q e i
 .ext;exact .inr ⟨n,v,rfl,hk,r.J (pj.ap H)⟩
 .show Rj l g p (λj d=>?_);show pK rfl ?_;ext;exact⟨small oY,λy x=>r y j d (d.Z x)⟩
set_option tactic.hygienic true in
def Rb:qp P w K mg base (k+1) "matched" ["row"] (si):=pJ.u (T.f.J 4) (pI ["row","found","waiting","at","sign","start"]) λnd H hr h=>by
 obtain⟨a,rfl,ha,q,q'⟩:=h;have hu:=hr.J;refine⟨_,(AD (AO 1 (AI Bg (Ad (pe AC)) (Al K (T.N 7) (pe l')))) (AD (AO 2 (Ad AB)) (AD (BL oQ rfl (US rfl (T.N 4) (pe l')) (B2 (n:=2) K rfl (Ao (Ah 3) (Ao (Ah 4) Bh))) (AD (AV (AS (Cv K) nt (Ac (T.g.J 0)) dp) (AD (Au (Ax K oN oU oS B7 mm (pe nc))) (AE Ql)) AW) (AD (AV (PW.J (BX (Bb (BD K mm)) (Ba (AS (FS K) (AI AM (AH K l' (AH K mm (Bo Bi AC))) nt) (Ac (T.g.J 2)) dp)))) (AE (AJ Ar)) AW) (AD (AO 5 (Hw K oN PySem.F.slot_list_pop PySem.F.type_list_pop IU mm)) (AD (Bc nc (Cc ma nS Bf)) (AE (Bc nS (Cc ma nc Bf)))))))) (AE (AJ (BR (BD K mm) Ar ma)))))),?_⟩;show⟨small (n:=1) oY,λp0 J=>?_⟩;show E4 AF oZ oZ (small (by simp;lia)) (λL M=>?_);rw[fb,ZS];show⟨small (n:=0) oY,λp Q=>?_⟩;ext;have sH:pj H (upd (upd (upd H p0 (.a [.a 0])) L (.a (List.replicate a.length (V.a 0)))) p (.a [])):=(AL J _).J ((AL M _).J (AL Q _));have B:L≠p:=AQ AF Q;have R:H L=none:=(AL J _).Z M;have a0:H p=none:=(AL J _).Z ((AL M _).Z Q);refine WT (λi O H'=>∃ (s ws:gk) (S:gr) (o3 o4 o5:Option V),O=[ae (tx a),ae (.b L),ae (.b p),o3,o4,o5]/\MI a i s ws S/\H' L=ae (.a S)/\H' p=ae (.a (ws.reverse.map fun(w:Nat)=>V.a w))/\pj H H') ⟨[],[],List.replicate a.length (V.a 0),_,_,_,rfl,MI.Z a b',?_,AF,sH⟩ ?_ ?_
 .rw[AG B,AF]
 .intro i c O A tt hc ht z_;obtain⟨s,ws,S,o3,o4,o5,rfl,m,U,X,Y⟩:=z_;have hi:i<a.length:=(aR.mp hc).1;have t:pj A (upd A tt (.b [.a i,tx [c]])):=AL ht _;have D:=t _ _ U;have y:=t _ _ X;have a6:ws.length<=40:=by
   have e1:=m.d.J;have e2:=Iz m.c;have:∀l:gk,hg l<=l.length:=by
    intro l
    induction l with
    |nil=>simp[hg]
    |cons d r ih=>rw[hg,aJ];unfold sg;split<;>lia
   have e3:=this (a.take i);unfold Lake.ht at e2;rw[cU]at e3;lia
  refine DV (pX.J AF) rfl ?_;show qu (λv=>?_) (λv=>?_)
  .show⟨.inl ⟨rfl,_,pq.J y⟩,?_⟩;show⟨p,_, .a i,rfl,rfl,y,B5 (by simp;lia),?_⟩;show⟨_,i::ws,S,_,_,_,rfl,m.ap hc v,?_,?_,?_⟩
   .rw[AG B];exact D
   .rw[AF];simp
   .intro b o z;rw[AG (AQ z a0)];exact t b o (Y b o z)
  .show Ek (pq.J y) ?_;have v:c∉qP:=v;have C:∀ (hn:¬ (∃w I r,ws=w::I/\s=c::r)),¬Rt a:=by
    intro hn hR;obtain⟨s',e⟩:=UF hR (i+1);rw[HK m.c hc]at e;unfold Lake.qY at e;rw[aP v]at e
    cases s with
    |nil=>cases e
    |cons d r=>
     simp only at e
     split at e
     .rename_i hd
      cases ws with
      |nil=>have:=m.d.J;simp at this
      |cons w I=>exact hn ⟨w,I,r,rfl,by rw[hd]⟩
     .cases e
   cases ws with
   |nil=>
    refine pK rfl ?_;ext;exact q' (C (by rintro⟨_,_,_,z,_⟩;cases z)) _ (Y.J t)
   |cons w I=>
    refine pL b' ?_;obtain⟨cw,r,a3,E,rfl,a7⟩:=m.ld;have a4:w<a.length:=by lia
    have x:((w::I).reverse.map fun(w:Nat)=>V.a w)=(I.reverse.map fun(w:Nat)=>V.a w)++[V.a w]:=by simp
    have a1:pY ((w::I).reverse.map fun(w:Nat)=>V.a w) (-1)=ae (.a w):=by rw[x];exact ME _ _
    walk_at"s";walk_at"s";walk_at"s";walk_at"s";walk_at"s";walk_at"s";show AK (pq.J y) a1 ?_;refine BS (small oZ) (AU a3) ?_;show LZ (.inr T.k.J) rfl rfl ?_;have ek:su (tx ([cw]++[c])) [tx [40,41],tx [91,93],tx [123,125],tx [60,62]]=decide (c=qQ cw):=Um E;rw[ek];show zy (λZ=>?_) (λZ=>?_)
    .ext;exact q' (C (by rintro⟨_,_,_,_,z⟩;injection z with z _;exact Z z.symm)) _ (Y.J t)
    .show⟨.inl ⟨rfl,_,pq.J y⟩,?_⟩;refine⟨p,_, .a w,rfl,rfl,y,?_,?_⟩
     .rw[x];simp
     .ext;have a2:(upd (upd A tt (.b [.a i,tx [c]])) p (.a ((w::I).reverse.map fun(w:Nat)=>V.a w).dropLast)) L=ae (.a S):=by rw[AG B];exact D
      have a5:=m.b;refine Bj (j:=w) a2 (by simp[qW];lia) ?_;show Bj (j:=i) AF (by simp[qW];lia) ?_;show⟨r,I,_,_,_,_,rfl,MI.J (c:=c) (by rw[Z];exact m) hc v,AF,?_,?_⟩
      .rw[AG B.symm,AG B.symm,AF,x];simp
      .intro b o z;rw[AG (AQ z R),AG (AQ z R),AG (AQ z a0)];exact t b o (Y b o z)
 .intro O A z_;obtain⟨s,ws,S,o3,o4,o5,rfl,m,U,X,Y⟩:=z_;have G:=m.c;rw[List.take_length]at G;show Ek (pq.J X) ?_;have hl:=m.d.J
  cases ws with
  |nil=>
   refine pL rfl ?_;ext
   cases s with
   |nil=>exact q G L S A R Y U m.mp
   |cons d r=>simp at hl
  |cons w I=>
   refine pK b' ?_;show q' (λhR=>?_) A Y;have σ:run [] a=ae []:=hR;rw[G]at σ
   cases σ
   simp at hl
def Gg:Ak P w K mg base (k+5) "is_right" ["k","row"] (Hk K cs sV):=pJ.J (T.f.J 5) (pI ["k","row"]) λo H e h=>by
 refine⟨_,(AD (Au (Aa (CG T) e A5 (pk l' ma))) (AE (AJ (BP SV (AN (Rb T) e (pe ma)) Ar)))),?_⟩;rcases h with⟨p,a,rfl,n,m,c,q⟩|⟨l,v,rfl,g⟩
 rotate_left
 .ext;exact .inr ⟨l,v,rfl,g.J (pj.ap H)⟩
 have j:=Ai c;show .inl (Bs n m c (λB i=>?_));show Q7 j (λx r G b y d I J=>?_) (λz b d=>?_)
 .ext;have:=q b (i.J d);rw[be x]at this;exact this
 .ext;have:=q b (i.J d);rw[ba z]at this;exact this
def Pu:qp P w K mg base (k+1) "weighed_places" ["row","weights"] (rT K):=pJ.u (T.f.J 6) (pI ["row","weights"]) λnd _ hr h=>by
 obtain⟨a,p,G,rfl,ha,hp,hw,q⟩:=h;have v:=hr.J;refine⟨_,(AE (AJ (BE (own:=["sign"]) (sel:=[1]) (A9 (osc:=(AX (top 27))) (N:=["row","weights"]) bg) rfl (Cb l') (λ_ _ _ _ _=>(Am (i:=0) (show(["sign","weights"]:hE).Nodup from by decide +kernel) rfl (Or.inr rfl))) (Av oY) (λ_ _ _ _ _=>BC) (λ_ _ _ _ _=>(BR (AS (Af K v) l' (Ac (T.g.J 4))) (BA (Rz K) rfl (T.N 8) PyProof.Rows.boot_list (pe ma)) (BE (own:=["bracket"]) (sel:=[0]) (K2 (osc:=(AX (top 27))) (N:=["sign","weights"]) rfl rfl bg) rfl (Cb (A1 (A7 K) (Ac (T.g.J 3)) A4 (A3 (Al K (T.N 7) (pe ma))))) (λ_ _ _ _ _=>(Am (i:=0) (show(["bracket","sign"]:hE).Nodup from by decide +kernel) rfl (lY rfl))) (Av oY) (λ_ _ _ _ _=>BC) (λ_ _ _ _ _=>(BA CV rfl (T.N 5) oP (pe (BP (Af K v) ma l')))))))))),?_⟩;show Hf (small oZ) (λD i I H=>∃d:Nat->Addr,I=(aH i).map (λj=>V.b (d j))/\∀j,j<i->H (d j)=ae (iL (pO G (a.getD j 0)))/\d j≠D)
  (λD _=>⟨λ_=>D,rfl,λj y=>absurd y oZ⟩) (λD i I H1 J _ ⟨d,e,B⟩ M=>⟨d,e,λj y=>⟨M _ _ (B j y).1 (B j y).2,(B j y).2⟩⟩)
  (λD I H hD Q _ L ⟨d,e,B⟩=>?_) ?_
 .subst e;refine q D H hD L ⟨d,by rw[az];exact Q,λi n=>?_⟩;rw[az]at n;have eg:(a.map (pO G)).getD i []=pO G (a.getD i 0):=by
   simp only[ag,ao,al n];rfl
  rw[eg];exact(B i n).1
 .rintro D i I H R hD n Q hl L ⟨d,e,B⟩ r;have m:∀l o,H l=none->pj H o->o l=ae (iL (pO G (a.getD i 0)))->R (.b l) o:=by
   intro l o x s O;have S:l≠D:=λz=>by rw[z,Q]at x;cases x
   refine r _ _ s ⟨λj=>if j=i then l else d j,?_,λj y=>?_⟩
   .subst e;rw[List.range_succ,b0];congr 1
    .refine List.map_congr_left λj y=>?_;have:=List.mem_range.mp y;show V.b (d j)=V.b (if j=i then l else d j);rw[aP oZ]
    .simp
   .by_cases A:j=i
    .subst A;simp only[if_true];exact⟨O,S⟩
    .simp only[aP A];obtain⟨a1,a2⟩:=B j oZ;exact⟨s _ _ a1,a2⟩
  show qu (λU=>?_) (λU=>?_)
  .show VQ (L.ld hp) (λl x=>?_);refine m l _ x (AL x _) ?_;have X:a.getD i 0=63:=by simpa using U
   rw[AF];unfold pO;rw[aU X]
  .have Y:¬ (a.getD i 0=63):=by simpa using U
   show BN (.inl (L.ld hp)) ?_;ext;have el:(((G.map V.a).length:Nat):Int)=(G.length:Int):=by rw[az]
   rw[el,Bn _ oZ,fb];show LB (λb=> .a (if a.getD i 0=b then 1 else 0)) (small (by rw[cU];exact bw (Nat.min_le_right _ _) oY)) (λD2 J Z t h2=>?_) (λi2 c J R2 E t C=>?_)
   .refine m D2 J Z t ?_;rw[h2];unfold pO;rw[aP Y];show ae (HO.a _)=ae (HO.a (List.map V.a (List.map _ _)));rw[dC]
    rfl
   .ext;have eb:(if(decide ([a.getD i 0]=[c]))=true then(1:Int)else 0)=if a.getD i 0=c then 1 else 0:=by
     by_cases z:a.getD i 0=c<;>simp[z]
    rw[eb];exact C J (pj.ap _)
def FN:qp P w K mg base (k+2) "counted_places" ["k","row"] (sj):=pJ.u (T.f.J 7) (pI ["k","row"]) λc H j h=>by
 obtain⟨b,a,rfl,M,Q,x,q⟩:=h;refine⟨_,(AE (AJ (AN (Pu T) j (pk ma (AI Bg (Ad (pe AC)) (AI Bg AC l')))))),?_⟩;show⟨small (n:=1) oY,λz y=>?_⟩;ext;have e:(2*b).toNat=2*b.toNat:=by lia
 refine E4 (xs:=[.a 1]) AF oZ oZ (small (by rw[hH,e];lia)) (λp B=>?_);ext;have G:(List.replicate (2*b).toNat [V.a 1]).flatten=(ones b.toNat).map V.a:=by rw[e,UI]
 rw[G]at*
 have i:pj H (upd (upd H z (.a [.a 1])) p (.a ((ones b.toNat).map V.a))):=(AL y _).J (AL B _);refine Qf x (pq.J AF) (by rw[List.length_replicate];lia) (λr I d J L=>?_);exact q r I (i.Z d) (i.J J) L
def Jk:qp P w K mg base (k+1) "pair_sum" ["first","last"] (va):=pJ.u (T.f.J 8) (pI ["first","last"]) λg _ B h=>by
 obtain⟨p,q,x,y,a,rfl,e,G,H,U,hk,j,z,r⟩:=h;have X:=B.J;refine⟨_,(AE (AJ (Aj (FT K rfl) rfl (T.N 16) PyProof.Rows.boot_sum (pe (BE (own:=["opening"]) (sel:=[0,1]) (A9 (osc:=(AX (top 29))) (N:=["first","last"]) bg) rfl (B6 rfl (T.N 11) (pF AC (Al K (T.N 7) (pe l')) AC)) (λ_ _ _ _ _=>(Am (i:=0) (show(["opening","first","last"]:hE).Nodup from by decide +kernel) rfl (lY rfl))) (Av oY) (λ_ _ _ _ _=>BC) (λ_ _ _ _ _=>(AI Be (AH K ma l') (AH K mm (AI AM l' AC))))))))),?_⟩;show BN (.inl (pq.J e)) ?_;ext;have I:(((x.map V.a).length:Nat):Int)=((2*a:Nat):Int):=by rw[az,H]
 rw[I];refine⟨0,((2*a:Nat):Int),2,rfl,⟨by decide,by decide,CT oY oY oZ oZ⟩,?_⟩;have J:rN 0 ((2*a:Nat):Int) 2=a:=by rw[Ca];lia
 rw[J];refine KO (λi=> .a (x.getD (2*i) 0*y.getD (2*i+1) 0)) (small oZ) (λD b Y d L=>?_) (λi b R l d M=>?_)
 .have c:pq K b D (((aH a).map λi=>x.getD (2*i) 0*y.getD (2*i+1) 0).map V.a):=by rw[dC];exact pq.J L
  refine GF c ?_;rw[FR];exact r b d
 .ext;have Q:(0+((i:Nat):Int)*2)=((2*i:Nat):Int):=by lia
  rw[Q];refine AK (pq.J (d _ _ e)) (v:= .a (x.getD (2*i) 0)) (AU (int_at oZ)) ?_;ext;have S:(((2*i:Nat):Int)+1)=((2*i+1:Nat):Int):=by lia
  rw[S];refine AK (pq.J (d _ _ G)) (v:= .a (y.getD (2*i+1) 0)) (AU (int_at oZ)) ?_;refine Bl (BH (j.J _).1 (j.J _).2 DT) (BH (z.J _).1 (z.J _).2 DT) ?_;exact M b (pj.ap _)
def J6:qp P w K mg base (k+1) "no_sums" ["many"] (sX):=pJ.u (T.f.J 9) (pI ["many"]) λE H hr h=>by
 obtain⟨n,rfl,hn,q⟩:=h;have O:=hr.J;refine⟨_,(AE (AJ (BE (own:=["start"]) (sel:=[0]) (A9 (osc:=(AX (top 30))) (N:=["many"]) bg) rfl (CI rfl (T.N 11) (pe (AI AM l' AC))) (λ_ _ _ _ _=>(Am (i:=0) (show(["start","many"]:hE).Nodup from by decide +kernel) rfl (lY rfl))) (Av oY) (λ_ _ _ _ _=>BC) (λ_ _ _ _ _=>(AI Bg (Ad (pe AC)) (AI AM ma AC)))))),?_⟩;show⟨_,rfl,by lia,by lia,?_⟩;have Q:((n:Int)+1).toNat=n+1:=by lia
 rw[Q];refine Hg (small oZ) (λD i M B=>∃b:Nat->Addr,M=(aH i).map (λj=>V.b (b j))/\(∀j,j<i->B (b j)=ae (.a (sF n λ_=>0))/\H (b j)=none/\b j≠D)/\∀j G,j<i->G<i->b j=b G->j=G)
  (λD _=>⟨λ_=>D,rfl,λj d=>absurd d oZ,λj _ d=>absurd d oZ⟩) (λD i M H1 H2 _ ⟨b,e,x,J⟩ S=>⟨b,e,λj d=>⟨S _ _ (x j d).1 (x j d).2.2,(x j d).2⟩,J⟩)
  (λD M B hD U _ X ⟨b,e,x,J⟩=>?_) ?_
 .subst e;exact q D b B ⟨hD,λi a=>(x i oZ).2.1,λi a=>(x i oZ).2.2,λi j a d=>J i j oZ oZ,U,λi a=>(x i oZ).1,X⟩
 .rintro D i M B R hD a U hl X ⟨b,e,x,J⟩ r;show⟨small (n:=1) oY,λz s=>?_⟩;show E4 (xs:=[.a 0]) AF oZ oZ (small (by rw[hH,Q];lia)) (λp L=>?_);have Y:p≠z:=λw=>by rw[w,AF]at L;cases L
  have y:B p=none:=by rw[AG Y]at L;exact L
  have Z:p≠D:=λw=>by rw[w,U]at y;cases y
  have l:pj B (upd (upd B z (.a [.a 0])) p (.a (List.replicate ((n:Int)+1).toNat [V.a 0]).flatten)):=(AL s _).J (AL L _);refine r _ _ l ⟨λj=>if j=i then p else b j,?_,?_,?_⟩
  .subst e;rw[List.range_succ,b0];congr 1
   .refine List.map_congr_left λj d=>?_;have:=List.mem_range.mp d;show V.b (b j)=V.b (if j=i then p else b j);rw[aP oZ]
   .simp
  .intro j d
   by_cases o:j=i
   .subst o;simp only[if_true];refine⟨?_,?_,Z⟩
    .rw[AF,Q,UH]
    .exact X.Z y
   .simp only[aP o];obtain⟨C,A,v⟩:=x j oZ;exact⟨l _ _ C,A,v⟩
  .intro j G d t I;have m:∀j,j<i->b j≠p:=λj d w=>by have:=(x j d).1;rw[w,y]at this;cases this
   by_cases g:j=i<;>by_cases c:G=i
   .lia
   .simp only[aU g,aP c]at I;exact absurd I.symm (m G oZ)
   .simp only[aP g,aU c]at I;exact absurd I (m j oZ)
   .simp only[aP g,aP c]at I;exact J j G oZ oZ I
def FP:qp P w K mg base (k+2) "span_sums" ["places"] (MR):=pJ.u (T.f.J 10) (pI ["places","many","sums","start","end","first_part","stop"]) λnd H hr h=>by
 obtain⟨p,ps,B,rfl,hP,hn,hk,hl,q⟩:=h;have hu:=hr.J;have X:∀l∈ps,Sm l:=λl z=>(hl l z).2;obtain⟨pa,Y,a3⟩:=id hP;refine⟨_,(AD (AO 1 (Al K (T.N 7) (pe l'))) (AD (AO 2 (AN (J6 T) hr (pe ma))) (AD (BL oQ rfl (B6 rfl (T.N 11) (pF ma (Bo Bi AC) (Bo Bi AC))) (Ah 3) (AD (Bc AC (Cc (AH K mm nc) nc Bf)) (AE (BL oQ rfl (B6 rfl (T.N 11) (pF (AI AM nc AC) ma AC)) (Ah 4) (AD (AO 5 (AI Be (AN (Jk T) hr (pk (AH K l' nc) (AH K l' nt))) (AH K (AH K mm (AI AM nc AC)) nt))) (AE (BL oQ rfl (B6 rfl (T.N 11) (pF (AI AM nt AC) (AI AM ma AC) AC)) (Ah 6) (AE (Eg (AH K mm nc) ov (ES K) (AI Be nS (AH K (AH K mm (AI AM nt AC)) ov)) DJ Bf))))))))) (AE (AJ mm))))),?_⟩;show BN (.inl (pq.J Y)) ?_;have en:((((aH ps.length).map λi=>V.b (pa i)).length:Nat):Int)=(ps.length:Int):=by rw[az,dt]
 rw[en];generalize hN:ps.length=n at*
 show J9 hn (λZ ad H1 a2=>?_);show⟨n,-1,-1,rfl,⟨by decide,by decide,J2 (.inl rfl) oZ oZ oY oY⟩,?_⟩;have er:rN (n:Int) (-1) (-1)=n+1:=by rw[Md];lia
 rw[er];have s:∀ {L:Hp} {i:Nat},pj H L->i<n->∃l,L (pa i)=ae (iL l)/\l.length=2*B/\Sm l/\∀b,PP ps i b=l.getD b 0:=by
  intro L i sH A;have e:ps[i]? =ae ps[i]:=al oZ;have eg:ps.getD i []=ps[i]:=by rw[ag,e];rfl
  refine⟨ps[i],?_,(hl _ (d2 _)).1,(hl _ (d2 _)).2,λb=>by show(ps.getD i []).getD b 0=_;rw[eg]⟩;have:=sH _ _ (a3 i oZ);rw[eg]at this;exact this
 have a1:∀ {i:Nat},i<n->((aH n).map λi=>V.b (pa i))[i]? =ae (.b (pa i)):=fun{i} A=>by rw[ao,bb A];rfl
 refine CU (λt m L=>∃o3 E D Q,m=[ae (.b p),ae (.a n),ae (.b Z),o3,E,D,Q]/\Tb H L Z ad n (λi j=>if n<i+t then qa (PP ps) B i j else 0)) ?_ ?_ ?_
 .exact⟨_,_,_,_,rfl,a2.J λi j A O=>by rw[aP oZ]⟩
 rotate_left
 .intro m L C;obtain⟨o3,E,D,Q,rfl,tb⟩:=C;ext;exact q Z ad L (tb.J λi j A O=>by rw[aU oZ])
 intro t m H2 ht C;obtain⟨o3,E,D,Q,rfl,R⟩:=C;obtain⟨d,b9⟩:∃d:Nat,d+t=n:=⟨n-t,by lia⟩;have e1:((n:Int)+(t:Int)* -1)=(d:Int):=by lia
 rw[e1];show AK (pq.J R.a) (AU (R.at (i:=d) oZ)) ?_;show Bj (R.b d oZ) (j:=d) (by rw[Cp];unfold qW;rw[aU oZ,aU oZ];simp) ?_;have a0:=(R.mp (i:=d) (j:=d) (v:=1) oZ).J (T':=λi j=>if d<i then qa (PP ps) B i j else if i=d then part (PP ps) B d 0 j else 0) (λi j A O=>by
  by_cases I:i=d
  .subst I;rw[aP (Nat.lt_irrefl _),aU rfl,SQ]
   by_cases G:j=i
   .rw[aU ⟨rfl,G⟩,aU G]
   .rw[aP (λz=>G z.2),aP G,aP oZ]
  .rw[aP (λz=>I z.1)]
   by_cases G:d<i
   .rw[aU oZ,aU G]
   .rw[aP oZ,aP G,aP I])
 generalize upd H2 (ad d) _=H3 at a0;clear R;show⟨_,_,2,rfl,⟨by decide,by decide,CT oZ oZ oZ oZ⟩,?_⟩;have a8:rN ((d:Int)+1) n 2=(n-d)/2:=by rw[Ca];lia
 rw[a8];refine CU (λg m L=>∃E D Q,m=[ae (.b p),ae (.a n),ae (.b Z),ae (.a d),E,D,Q]/\Tb H L Z ad n (λi j=>if d<i then qa (PP ps) B i j else if i=d then part (PP ps) B d g j else 0)) ?_ ?_ ?_
 .exact⟨_,_,_,rfl,a0⟩
 rotate_left
 .intro m L C;obtain⟨E,D,Q,rfl,tb⟩:=C;show⟨_,_,_,_,rfl,tb.J λi j A O=>?_⟩
  by_cases G:d<i
  .rw[aU G,aU oZ]
  .by_cases I:i=d
   .subst I;rw[aP G,aU rfl,aU oZ];exact Ud O
   .rw[aP G,aP I,aP oZ]
 intro g m H4 b8 C;obtain⟨E,D,Q,rfl,M⟩:=C;obtain⟨a,a4⟩:∃e:Nat,e=d+1+2*g:=⟨_,rfl⟩;have e2:((d:Int)+1+(g:Int)*2)=(a:Int):=by lia
 have b0:a<n:=by lia
 rw[e2];ext;obtain⟨x,hx,lx,sx,ex⟩:=s M.c (show d<n by lia);obtain⟨y,hy,ly,sy,ey⟩:=s M.c (show a<n by lia);refine AK (pq.J (M.c _ _ Y)) (AU (a1 (i:=d) oZ)) ?_;show AK (pq.J (M.c _ _ Y)) (AU (a1 (i:=a) oZ)) ?_;show Lg hx hy lx ly hk sx sy (λH5 s5=>?_);have a9:sm B (λo=>x.getD (2*o) 0*y.getD (2*o+1) 0)=pr (PP ps) B d a:=by
  unfold pr;exact BW B λo _=>by rw[ex,ey]
 rw[a9];have S:=M.Z s5;clear M;have e3:((d:Int)+1)=((d+1:Nat):Int):=by lia
 ext;rw[e3];refine AK (pq.J S.a) (AU (S.at (i:=d+1) oZ)) ?_;show AK (pq.J (S.b (d+1) oZ)) (AU (Bu (j:=a) oZ)) ?_;have ev:(if d<d+1 then qa (PP ps) B (d+1) a else if d+1=d then part (PP ps) B d g a else 0)=cv (PP ps) B (2*g) (d+1) []:=by
  rw[aU oZ];unfold qa;rw[aU oZ,show a-(d+1)=2*g by lia]
 rw[ev];have b1:=Xu hk X d a;have b2:=GC hk X (n:=2*g) oZ (d+1) [];refine Bl (BH b1.1 b1.2 Nc) (BH b2.1 b2.2 Fx) ?_;have b3:0<=pr (PP ps) B d a*cv (PP ps) B (2*g) (d+1) []:=Int.mul_nonneg b1.1 b2.1;have b4:pr (PP ps) B d a*cv (PP ps) B (2*g) (d+1) []<=4*(pD*pD)*vt:=Int.mul_le_mul b1.2 b2.2 b2.1 oY;show⟨_,_,2,rfl,⟨by decide,by decide,CT oZ oZ oZ oZ⟩,?_⟩;have a7:rN ((a:Int)+1) ((n:Int)+1) 2=(n+1-a)/2:=by rw[Ca];lia
 rw[a7];refine CU (λr m L=>∃Q,m=[ae (.b p),ae (.a n),ae (.b Z),ae (.a d),ae (.a a),ae (.a (pr (PP ps) B d a*cv (PP ps) B (2*g) (d+1) [])),Q]/\Tb H L Z ad n (λi j=>if d<i then qa (PP ps) B i j else if i=d then(if j<a+1+2*r then part (PP ps) B d (g+1) j else part (PP ps) B d g j)else 0)) ?_ ?_ ?_
 .refine⟨_,rfl,S.J λi j A O=>?_⟩
  by_cases G:d<i
  .rw[aU G,aU G]
  .rw[aP G,aP G]
   by_cases I:i=d
   .rw[aU I,aU I]
    by_cases h3:j<a+1+2*0
    .rw[aU h3,SR oZ]
    .rw[aP h3]
   .rw[aP I,aP I]
 rotate_left
 .rintro m L ⟨Q,rfl,tb⟩;show⟨_,_,_,rfl,tb.J λi j A O=>?_⟩
  by_cases G:d<i
  .rw[aU G,aU G]
  .rw[aP G,aP G]
   by_cases I:i=d
   .rw[aU I,aU I,aU oZ]
   .rw[aP I,aP I]
 rintro r m H6 b7 ⟨Q,rfl,J⟩;obtain⟨c,b6⟩:∃e:Nat,e=a+1+2*r:=⟨_,rfl⟩;have e4:((a:Int)+1+(r:Int)*2)=(c:Int):=by lia
 have U:c<=n:=by lia
 rw[e4];show AK (pq.J J.a) (AU (J.at (i:=d) oZ)) ?_;show El (pq.J (J.b d oZ)) (Bu (j:=c) U) ?_;have a6:(if d<d then qa (PP ps) B d c else if d=d then(if c<a+1+2*r then part (PP ps) B d (g+1) c else part (PP ps) B d g c)else 0)=part (PP ps) B d g c:=by
  rw[aP oZ,aU rfl,aP oZ]
 rw[a6];have e5:((a:Int)+1)=((a+1:Nat):Int):=by lia
 ext;rw[e5];refine AK (pq.J J.a) (AU (J.at (i:=a+1) oZ)) ?_;show AK (pq.J (J.b (a+1) oZ)) (AU (Bu (j:=c) U)) ?_;have a5:(if d<a+1 then qa (PP ps) B (a+1) c else if a+1=d then(if c<a+1+2*r then part (PP ps) B d (g+1) c else part (PP ps) B d g c)else 0)=cv (PP ps) B (c-(a+1)) (a+1) []:=by
  rw[aU oZ];unfold qa;rw[aU oZ]
 rw[a5];have b5:=GC hk X (n:=c-(a+1)) oZ (a+1) [];refine Bl (BH b3 b4 U2) (BH b5.1 b5.2 Fx) ?_;refine D7 ?_;refine Bj (J.b d oZ) (j:=c) (by rw[Cp];unfold qW;rw[aU oZ,aU oZ];simp) ?_;show⟨_,rfl,(J.mp (i:=d) (j:=c) oZ).J λi j A O=>?_⟩
 by_cases I:i=d
 .subst I;simp only[Nat.lt_irrefl,if_false,if_true,true_and]
  by_cases G:j=c
  .subst G;rw[aU rfl,aU oZ];exact SS a4 oZ oZ
  .rw[aP G]
   by_cases h3:j<a+1+2*r
   .rw[aU h3,aU oZ]
   .rw[aP h3]
    by_cases h4:j<a+1+2*(r+1)
    .rw[aU h4,Lf oZ,Lf oZ]
    .rw[aP h4]
 .rw[aP (λz=>I z.1)]
  by_cases G:d<i
  .rw[aU G,aU G]
  .rw[aP G,aP G,aP I,aP I]
def FO:qp P w K mg base (k+1) "whole_sum" ["sums"] (rB):=pJ.u (T.f.J 11) (pI ["sums"]) λa _ _ h=>by
 obtain⟨d,e,i,n,b,rfl,tb,q⟩:=h;refine⟨_,(AE (AJ (AH K (AH K l' AC) (Bo Bi AC)))),?_⟩;show AK (pq.J tb.a) (AU (j:=0) (tb.at (Nat.zero_le _))) ?_;show AK (pq.J (tb.b 0 (Nat.zero_le _))) (v:= .a (b 0 n)) (Du ?_ ?_) ?_
 .rw[Cp];lia
 .rw[Cp];exact Bu (Nat.le_refl _)
 exact q
def P0:Ak P w K mg base (k+2) "check_filling" ["sums"] (sD cs):=pJ.J (T.f.J 12) (pI ["sums"]) λl H b h=>by
 have e:=b.J;refine⟨_,(AE (AV (AS (Af K e) (AN (FO T) b (pe l')) AC) (AE (DR (T.c.J 8).2 (T.c.J 8).1 b.a Dc (pe DI))) AW)),?_⟩;obtain⟨z,g,B,n,i,rfl,a,⟨d,q⟩|⟨j,r⟩⟩:=h
 .show EK a ?_;show pL (ba d) ?_;ext;exact q
 .show EK a ?_;show pK (be j) ?_;ext;exact⟨small oY,λy x=>r y H (pj.ap H) x⟩
def Pp:qp P w K mg base (k+2) "pairs_with_rest" ["places","sums"] (LP):=pJ.u (T.f.J 13) (pI ["places","sums","many","outer","found","start","end","pair","within","outside","stop"]) @λ_ _ _ _ s vs _ _ nd H hr h=>by
 obtain⟨p,ss,ps,B,S,f2,H0,rfl,hP,hn,hk,hl,hC,Y,q⟩:=h;have hu:=hr.J;have e7:∀l∈ps,Sm l:=λl z=>(hl l z).2;obtain⟨pa,a5,d1⟩:=id hP;refine⟨_,(AD (AO 2 (Al K (T.N 7) (pe l'))) (AD (AO 3 (AN (J6 T) hr (pe mm))) (AD (Bc AC (Cc (AH K nc AC) mm Bf)) (AD (AO 4 (Ad AB)) (AD (BL oQ rfl (CI rfl (T.N 11) (pe mm)) (Ah 5) (AE (BL oQ rfl (B6 rfl (T.N 11) (pF (AI AM nS AC) mm AC)) (Ah 6) (AD (AO 7 (AN (Jk T) hr (pk (AH K l' nS) (AH K l' ov)))) (AD (AO 8 (AH K (AH K ma (AI AM nS AC)) ov)) (AD (AO 9 AC) (AD (BL oQ rfl (B6 rfl (T.N 11) (pF (AI AM ov AC) (AI AM mm AC) AC)) (Ah 10) (AD (Eg (AH K nc (AI AM ov AC)) (pv 10) (ES K) (AI Be (AI Be (AH K (AH K nc nS) (pv 10)) oD) (pv 8)) DJ Bf) (AE (Eo (i:=9) nd rfl (lY rfl) (AI Be (AH K (AH K nc nS) (pv 10)) (AH K (AH K ma (AI AM ov AC)) (pv 10))) DJ)))) (AD (Eg (AH K nc (AI AM nS AC)) ov (ES K) (AI Be oD (pv 9)) DJ Bf) (AE (Au (Ax K oN oU oS B7 nt (pe (Az (pF nS ov (AI Be (pv 8) (pv 9)))))))))))))))) (AE (AJ nt))))))),?_⟩;show BN (.inl (pq.J a5)) ?_;have en:((((aH ps.length).map λi=>V.b (pa i)).length:Nat):Int)=(ps.length:Int):=by rw[az,dt]
 rw[en];generalize hN:ps.length=n at*
 ext;obtain⟨g,hg⟩:∃g,g=xj S (pr (PP ps) B) n:=⟨_,rfl⟩;rw[<-hg]at q;refine J9 hn (λs' ad H1 tb1=>?_);have a0:∀ {Q:Hp} {i:Nat},pj H Q->i<n->∃l,Q (pa i)=ae (iL l)/\l.length=2*B/\Sm l/\∀b,PP ps i b=l.getD b 0:=by
  intro Q i sH hi;have e:ps[i]? =ae ps[i]:=al oZ;have eg:ps.getD i []=ps[i]:=by rw[ag,e];rfl
  refine⟨ps[i],?_,(hl _ (d2 _)).1,(hl _ (d2 _)).2,λb=>by show(ps.getD i []).getD b 0=_;rw[eg]⟩;have:=sH _ _ (d1 i oZ);rw[eg]at this;exact this
 have b3:∀ {i:Nat},i<n->((aH n).map λi=>V.b (pa i))[i]? =ae (.b (pa i)):=fun{i} hi=>by rw[ao,bb hi];rfl
 show AK (pq.J tb1.a) (AU (j:=0) (tb1.at (Nat.zero_le _))) ?_;show Bj (tb1.b 0 (Nat.zero_le _)) (j:=n) (by rw[Cp];unfold qW;rw[aU oZ,aU oZ];simp) ?_;have tb2:=tb1.mp (i:=0) (j:=n) (v:=1) (Nat.zero_le _);generalize upd H1 (ad 0) _=H2 at*
 show⟨small (n:=0) oY,λA Z=>?_⟩;have t3:=AL Z (.a []);have c0:(upd H2 A (.a [])) A=ae (.a []):=AF;have b2:=tb2.Z t3;have b6:H A=none:=tb2.c.Z Z;have c9:A≠s':=λz=>by rw[z,tb2.a]at Z;cases Z
 have a4:∀i,i<=n->A≠ad i:=λi hi z=>by rw[z,tb2.b i hi]at Z;cases Z
 have c4:Rf (upd H2 A (.a [])) [] ((Bq n 0 0).map g):=⟨rfl,λm x hx=>by simp[Bq]at hx⟩;generalize upd H2 A _=H3 at*
 clear tb1 tb2 t3;show⟨_,rfl,by lia,by lia,?_⟩;rw[fb];refine HW (λd C Q=>∃ (vs:gr) (o5 o6 o7 o8 o9 L:Option V),C=[ae (.b p),ae (.b ss),ae (.a (n:Int)),ae (.b s'),ae (.b A),o5,o6,o7,o8,o9,L]/\Tb H Q s' ad n (ts S (pr (PP ps) B) n d)/\Q A=ae (.a vs)/\Rf Q vs ((Bq n d 0).map g)) ⟨[],_,_,_,_,_,_,rfl,b2,c0,c4⟩ ?_ ?_
 rotate_left
 .intro C H4 D;obtain⟨vs,o5,o6,o7,o8,o9,L,rfl,tb,gF,fp⟩:=D;ext;rw[UP]at fp;exact q A vs H4 b6 tb.c gF fp
 clear b2 c0 c4;intro d C H4 e6 D;obtain⟨c6,o5,o6,o7,o8,o9,L,rfl,b1,b9,c3⟩:=D;have e0:(0:Int)+(d:Int)=(d:Int):=by lia
 rw[e0];show⟨_,_,2,rfl,⟨by decide,by decide,CT oZ oZ oZ oZ⟩,?_⟩;have d6:rN ((d:Int)+1) n 2=(n-d)/2:=by rw[Ca];lia
 rw[d6];refine CU (λO C Q=>∃ (vs:gr) (o6 o7 o8 o9 L:Option V),C=[ae (.b p),ae (.b ss),ae (.a (n:Int)),ae (.b s'),ae (.b A),ae (.a (d:Int)),o6,o7,o8,o9,L]/\Tb H Q s' ad n (tq S (pr (PP ps) B) n d (ts S (pr (PP ps) B) n d) O)/\Q A=ae (.a vs)/\Rf Q vs ((Bq n d O).map g)) ⟨c6,_,_,_,_,_,rfl,b1,b9,c3⟩ ?_ ?_
 rotate_left
 .intro C H5 D;obtain⟨vs,o6,o7,o8,o9,L,rfl,tb,gF,fp⟩:=D;ext;exact⟨vs,_,_,_,_,_,_,rfl,tb,gF,by rw[Xr];exact fp⟩
 clear b1 b9 c3;intro O C H5 e9 D;obtain⟨E,o6,o7,o8,o9,L,rfl,tb5,b8,c2⟩:=D;obtain⟨t,a6⟩:∃e:Nat,e=d+1+2*O:=⟨_,rfl⟩;have e2:((d:Int)+1+(O:Int)*2)=(t:Int):=by lia
 have e1:t<n:=by lia
 rw[e2];ext;obtain⟨x,hx,lx,sx,ex⟩:=a0 tb5.c (show d<n by lia);obtain⟨y,hy,ly,sy,ey⟩:=a0 tb5.c (show t<n by lia);refine AK (pq.J (tb5.c _ _ a5)) (AU (b3 (i:=d) oZ)) ?_;show AK (pq.J (tb5.c _ _ a5)) (AU (b3 (i:=t) oZ)) ?_;show Lg hx hy lx ly hk sx sy (λH6 s6=>?_);have d7:sm B (λo=>x.getD (2*o) 0*y.getD (2*o+1) 0)=pr (PP ps) B d t:=by
  unfold pr;exact BW B λo _=>by rw[ex,ey]
 rw[d7];have a3:=tb5.Z s6;have d3:=s6 _ _ b8;have d4:=c2.J s6;clear tb5 b8 c2;have e3:((d:Int)+1)=((d+1:Nat):Int):=by lia
 ext;rw[e3];refine AK (pq.J (a3.c _ _ Y.a)) (AU (Y.at (i:=d+1) oZ)) ?_;show AK (pq.J (a3.c _ _ (Y.b (d+1) oZ))) (AU (Bu (j:=t) oZ)) ?_;have R:=hC.p d t;have bS:=hC.s (d+1) t;obtain⟨Sx,f1⟩:∃x,x=S (d+1) t:=⟨_,rfl⟩;obtain⟨px,f0⟩:∃x,x=pr (PP ps) B d t:=⟨_,rfl⟩;show⟨_,_,2,rfl,⟨by decide,by decide,CT oZ oZ oZ oZ⟩,?_⟩;have d5:rN ((t:Int)+1) ((n:Int)+1) 2=(n+1-t)/2:=by rw[Ca];lia
 rw[d5];have b4:=λr hr=>OY hC.s hC.p hn (s:=d) (q:=O) (r:=r) a6 oZ hr;generalize b5:tq S (pr (PP ps) B) n d (ts S (pr (PP ps) B) n d) O=U at*
 refine CU (λr C Q=>∃ (L:Option V),C=[ae (.b p),ae (.b ss),ae (.a (n:Int)),ae (.b s'),ae (.b A),ae (.a (d:Int)),ae (.a (t:Int)),ae (.a (pr (PP ps) B d t)),ae (.a (S (d+1) t)),ae (.a (qE S (pr (PP ps) B) d t U r).2),L]/\Tb H Q s' ad n (qE S (pr (PP ps) B) d t U r).1/\Q A=ae (.a E)/\Rf Q E ((Bq n d O).map g)) ⟨_,rfl,a3,d3,d4⟩ ?_ ?_
 rotate_left
 .intro C H7 D;obtain⟨L,rfl,G,a7,a9⟩:=D;obtain⟨_,d9,d8⟩:=b4 ((n+1-t)/2) oZ;have a2:=BH (c:=U5*Ob) d9 (Int.le_trans d8 bg) II;have eT:tq S (pr (PP ps) B) n d (ts S (pr (PP ps) B) n d) (O+1)=λa b=>if a=d+1/\b=t then(qE S (pr (PP ps) B) d t U ((n+1-t)/2)).1 (d+1) t+pr (PP ps) B d t*(qE S (pr (PP ps) B) d t U ((n+1-t)/2)).2 else(qE S (pr (PP ps) B) d t U ((n+1-t)/2)).1 a b:=by subst a6 b5;rfl
  have er:S (d+1) t*(qE S (pr (PP ps) B) d t U ((n+1-t)/2)).2=rv S (pr (PP ps) B) n d t:=by unfold rv;rw[show(t-d-1)/2=O by lia,b5]
  generalize qE S (pr (PP ps) B) d t U ((n+1-t)/2)=I at*
  ext;rw[e3];refine AK (pq.J G.a) (AU (G.at (i:=d+1) oZ)) ?_;show El (pq.J (G.b (d+1) oZ)) (Bu (j:=t) oZ) ?_;show Bl (BH R.1 (Int.le_trans R.2 (by decide:(4:Int)<=U5)) (by unfold big U5;decide +kernel)) a2 ?_;refine D7 ?_;refine Bj (G.b (d+1) oZ) (j:=t) (by rw[Cp];unfold qW;rw[aU oZ,aU oZ];simp) ?_;have M:=G.mp (i:=d+1) (j:=t) (v:=I.1 (d+1) t+pr (PP ps) B d t*I.2) oZ;rw[<-eT]at M;have a1:(upd H7 (ad (d+1)) (.a ((sF n (I.1 (d+1))).set t (.a (I.1 (d+1) t+pr (PP ps) B d t*I.2))))) A=ae (.a E):=by rw[AG (a4 (d+1) oZ)];exact a7
  have a8:=a9.Z (o:= .a ((sF n (I.1 (d+1))).set t (.a (I.1 (d+1) t+pr (PP ps) B d t*I.2)))) (G.b (d+1) oZ);generalize upd H7 (ad (d+1)) _=H8 at*
  show⟨.inl ⟨rfl,_,pq.J a1⟩,?_⟩;show Bl (BH bS.1 (Int.le_trans bS.2 (by decide +kernel:U5<=U5*Ob)) II) a2 ?_;rw[er];show⟨small (n:=3) oY,λT' hT=>?_⟩;have t9:=AL hT (.b [.a (d:Int), .a (t:Int), .a (rv S (pr (PP ps) B) n d t)]);have g9:(upd H8 T' (.b [.a (d:Int), .a (t:Int), .a (rv S (pr (PP ps) B) n d t)])) T'=ae (.b (g (d,t))):=by rw[AF,hg];rfl
  have c7:=M.Z t9;have b7:=t9 _ _ a1;have c1:=a8.J t9;have c8:T'≠A:=λz=>by rw[z,a1]at hT;cases hT
  generalize upd H8 T' _=H9 at*
  show⟨A,_,_,rfl,rfl,b7,?_,?_⟩
  .have:=UO n d O oZ oZ hn;rw[c1.1,az,PySem.sizeLine_eq];lia
  have up:pf A H9 (upd H9 A (.a (E++[.b T']))):=pf.ap;show⟨_,_,_,_,_,_,rfl,c7.mt b6 c9 a4 up,AF,?_⟩;rw[Xs,<-a6,b0];exact(c1.Z b7).ap (up _ _ g9 c8)
 intro r C H7 e8 D;obtain⟨L,rfl,G,a7,a9⟩:=D;obtain⟨J,d0⟩:∃e:Nat,e=t+1+2*r:=⟨_,rfl⟩;have e4:((t:Int)+1+(r:Int)*2)=(J:Int):=by lia
 have X:J<=n:=by lia
 rw[e4];have e5:((t:Int)+1)=((t+1:Nat):Int):=by lia
 obtain⟨bI,_⟩:=b4 r oZ;have bT:=bI J;have eI:qE S (pr (PP ps) B) d t U (r+1)=(λa b=>if a=t+1/\b=J then(qE S (pr (PP ps) B) d t U r).1 (t+1) J+(qE S (pr (PP ps) B) d t U r).1 d J*pr (PP ps) B d t*S (d+1) t else(qE S (pr (PP ps) B) d t U r).1 a b,(qE S (pr (PP ps) B) d t U r).2+(qE S (pr (PP ps) B) d t U r).1 d J*S (t+1) J):=by subst d0;rfl
 generalize qE S (pr (PP ps) B) d t U r=I at*
 have c5:=hC.s (t+1) J;ext;rw[e5];refine AK (pq.J G.a) (AU (G.at (i:=t+1) oZ)) ?_;show El (pq.J (G.b (t+1) oZ)) (Bu (j:=J) X) ?_;show AK (pq.J G.a) (AU (G.at (i:=d) oZ)) ?_;show AK (pq.J (G.b d oZ)) (AU (Bu (j:=J) X)) ?_;show Bl (BH bT.1 (Int.le_trans bT.2 bg) Dz) (BH R.1 (Int.le_trans R.2 bg) Dz) ?_;show Bl (BH (Int.mul_nonneg bT.1 R.1) (Int.mul_le_mul bT.2 R.2 R.1 (Int.pow_nonneg oY)) Dz) (BH bS.1 (Int.le_trans bS.2 bg) Dz) ?_;refine D7 ?_;refine Bj (G.b (t+1) oZ) (j:=J) (by rw[Cp];unfold qW;rw[aU oZ,aU oZ];simp) ?_;have M:=G.mp (i:=t+1) (j:=J) (v:=I.1 (t+1) J+I.1 d J*pr (PP ps) B d t*S (d+1) t) oZ;have a1:(upd H7 (ad (t+1)) (.a ((sF n (I.1 (t+1))).set J (.a (I.1 (t+1) J+I.1 d J*pr (PP ps) B d t*S (d+1) t))))) A=ae (.a E):=by rw[AG (a4 (t+1) oZ)];exact a7
 have a8:=a9.Z (o:= .a ((sF n (I.1 (t+1))).set J (.a (I.1 (t+1) J+I.1 d J*pr (PP ps) B d t*S (d+1) t)))) (G.b (t+1) oZ);generalize upd H7 (ad (t+1)) _=H8 at*
 show AK (pq.J M.a) (AU (M.at (i:=d) oZ)) ?_;show AK (pq.J (M.b d oZ)) (AU (Bu (j:=J) X)) ?_;ext;rw[e5,aP (show¬ (d=t+1/\J=J) by lia)];refine AK (pq.J (M.c _ _ Y.a)) (AU (Y.at (i:=t+1) oZ)) ?_;show AK (pq.J (M.c _ _ (Y.b (t+1) oZ))) (AU (Bu (j:=J) X)) ?_;refine Bl (BH bT.1 (Int.le_trans bT.2 bg) Dz) (BH c5.1 (Int.le_trans c5.2 bg) Dz) ?_;ext;rw[eI];exact⟨_,rfl,M,a1,a8⟩
def P5:qp P w K mg base (k+3) "bracket_sums" ["places","sums"] (OK):=pJ.u (T.f.J 14) (pI ["places","sums","found","start","end","rest","opening","weight"]) λnd H hr h=>by
 obtain⟨p,ss,ps,c,S,c8,H0,rfl,hP,hn,hk,hl,hC,b9,q⟩:=h;have hu:=hr.J;have d0:∀l∈ps,Sm l:=λl z=>(hl l z).2;obtain⟨pa,A,c3⟩:=id hP;refine⟨_,(AD (Gf (i:=2) nd rfl (lY rfl) (own:=["place"]) (sel:=[]) (A9 (osc:=(AX (top 35))) (N:=["places","sums","found","start","end","rest","opening","weight"]) bg) rfl (C9 K l') (λ_ _ _ _ _=>(Am (i:=0) (show(["place"]:hE).Nodup from by decide +kernel) rfl (lY rfl))) (Av oY) (λ_ _ _ _ _=>BC) (λ_ _ _ _ _=>(AI Bg (Ad (pe AC)) (Al K (T.N 7) (pe l'))))) (AD (BL oQ rfl (C9 K (AN (Pp T) hr (pk l' ma))) (B2 (n:=3) K rfl (Ao (Ah 3) (Ao (Ah 4) (Ao (Ah 5) Bh)))) (AE (BL oQ rfl (B6 rfl (T.N 11) (pF AC (Al K (T.N 7) (pe (AH K l' nc))) AC)) (Ah 6) (AD (AO 7 (AI Be (AI Be (AH K (AH K l' nc) ov) (AH K (AH K l' nt) (AI AM ov AC))) nS)) (AD (Eg (AH K mm nc) ov (ES K) oD DJ Bf) (AE (Eg (AH K mm nt) (AI AM ov AC) (ES K) oD DJ Bf))))))) (AE (AJ mm)))),?_⟩;have t:∀ {M:Hp} {i:Nat},pj H M->i<ps.length->∃l,M (pa i)=ae (iL l)/\l.length=2*c/\Sm l/\∀b,PP ps i b=l.getD b 0:=by
  intro M i sH σ;have e:ps[i]? =ae ps[i]:=al oZ;have eg:ps.getD i []=ps[i]:=by rw[ag,e];rfl
  refine⟨ps[i],?_,(hl _ (d2 _)).1,(hl _ (d2 _)).2,λb=>by show(ps.getD i []).getD b 0=_;rw[eg]⟩;have:=sH _ _ (c3 i oZ);rw[eg]at this;exact this
 have a4:∀ {i:Nat},i<ps.length->((aH ps.length).map λi=>V.b (pa i))[i]? =ae (.b (pa i)):=fun{i} σ=>by rw[ao,bb σ];rfl
 have E:((aH ps.length).map λi=>V.b (pa i)).length=ps.length:=by rw[az,dt]
 show⟨p,rfl,⟨_,pq.J A⟩,?_⟩;refine To (small (by rw[E];lia)) A (λD i ys M=>∃I:Nat->Addr,ys=(aH i).map (λj=>V.b (I j))/\(∀j,j<i->M (I j)=ae (.a (rQ (2*c) λ_=>0))/\H (I j)=none/\I j≠D)/\∀j j',j<i->j'<i->I j=I j'->j=j')
  (λD _=>⟨λ_=>D,rfl,λj Q=>absurd Q oZ,λj _ Q=>absurd Q oZ⟩) (λD i ys H1 H2 _ ⟨I,e,Z,h2⟩ c1=>⟨I,e,λj Q=>⟨c1 _ _ (Z j Q).1 (Z j Q).2.2,(Z j Q).2⟩,h2⟩)
  (λD ys M hD hy _ sH ⟨I,e,Z,h2⟩=>?_) ?_
 rotate_left
 .rintro D i x ys M R hD hx hy d1 sH ⟨I,e,Z,h2⟩ r;have σ:i<ps.length:=by
   have:=(aR.mp hx).1;rw[E]at this;exact this
  rw[a4 σ]at hx
  cases hx
  obtain⟨l,gl,ll,_,_⟩:=t sH σ;show⟨small (n:=1) oY,λz hz=>?_⟩;show BN (.inl (pq.J (AL hz _ _ _ gl))) ?_;have el:(((l.map V.a).length:Nat):Int)=((2*c:Nat):Int):=by rw[az,ll]
  rw[el];refine E4 (k:=((2*c:Nat):Int)) (xs:=[.a 0]) AF oZ oZ (small (by rw[hH,fb];lia)) (λp' C=>?_);have c2:p'≠z:=λw=>by rw[w,AF]at C;cases C
  have a5:M p'=none:=by rw[AG c2]at C;exact C
  have c4:p'≠D:=λw=>by rw[w,hy]at a5;cases a5
  have sp:pj M (upd (upd M z (.a [.a 0])) p' (.a (List.replicate ((2*c:Nat):Int).toNat [V.a 0]).flatten)):=(AL hz _).J (AL C _);refine r _ _ sp ⟨λj=>if j=i then p' else I j,?_,?_,?_⟩
  .subst e;rw[List.range_succ,b0];congr 1
   .refine List.map_congr_left λj Q=>?_;have:=List.mem_range.mp Q;show V.b (I j)=V.b (if j=i then p' else I j);rw[aP oZ]
   .simp
  .intro j Q
   by_cases ej:j=i
   .subst ej;simp only[if_true];refine⟨?_,?_,c4⟩
    .rw[AF,fb,SH]
    .exact sH.Z a5
   .simp only[aP ej];obtain⟨a1,a2,a3⟩:=Z j oZ;exact⟨sp _ _ a1,a2,a3⟩
  .intro j j' Q d3 ee;have nq:∀j,j<i->I j≠p':=λj Q w=>by have:=(Z j Q).1;rw[w,a5]at this;cases this
   by_cases e1:j=i<;>by_cases e2:j'=i
   .lia
   .simp only[aU e1,aP e2]at ee;exact absurd ee.symm (nq j' oZ)
   .simp only[aP e1,aU e2]at ee;exact absurd ee (nq j oZ)
   .simp only[aP e1,aP e2]at ee;exact h2 j j' oZ oZ ee
 rw[E]at e Z h2;subst e;have a7:Tw H M D I ps.length (2*c) (bs (PP ps) (rv S (pr (PP ps) c) ps.length) c (rF ps.length) 0):=⟨hD,λi σ=>(Z i oZ).2.1,λi σ=>(Z i oZ).2.2,λi j σ Q=>h2 i j oZ oZ,hy,λi σ=>(Z i oZ).1,sH⟩;clear Z h2 hD hy;show RW (hP.J sH) hn hk hl hC (ads:=c8) (H0:=H0) ?_ (λF0 U H2 b7 s2 gF fp=>?_)
 .exact b9.Z sH
 have b1:=a7.J s2;have b3:∀i,i<ps.length->F0≠I i:=λi σ z=>by rw[z,a7.b i σ]at b7;cases b7
 clear a7;show⟨F0,rfl,⟨_,pq.J gF⟩,?_⟩;refine HX (xs:=U) (λm O M=>∃ (o3 o4 o5 o6 o7:Option V),O=[ae (.b p),ae (.b ss),ae (.b D),o3,o4,o5,o6,o7]/\Tw H M D I ps.length (2*c) (bs (PP ps) (rv S (pr (PP ps) c) ps.length) c (rF ps.length) m)/\M F0=ae (.a U)/\Rf M U ((rF ps.length).map (xj S (pr (PP ps) c) ps.length))) ⟨_,_,_,_,_,rfl,b1,gF,fp⟩ (λm O M _ ⟨_,_,_,_,_,_,_,g,_⟩=>pq.J g) ?_ ?_
 rotate_left
 .intro O H3 z_;obtain⟨o3,o4,o5,o6,o7,rfl,tw,g3,X⟩:=z_;ext;rw[X.1,az]at tw;exact q D I H3 tw
 clear b1 gF fp;intro m x O H3 hx z_;obtain⟨o3,o4,o5,o6,o7,rfl,tw3,g3,X⟩:=z_;have hm:m<(rF ps.length).length:=by
  have:=(aR.mp hx).1;rw[X.1,az]at this;exact this
 obtain⟨⟨d,a⟩,a8⟩:∃y,(rF ps.length)[m]? =ae y:=⟨_,al hm⟩;obtain⟨T,eT,gT⟩:=X.2 m _ (by rw[ao,a8];rfl);rw[hx]at eT
 cases eT
 obtain⟨b6,b5,J⟩:=Xt (cE a8)
 dsimp only at b6 b5 J
 have L:d<ps.length:=by lia
 have eD:(rF ps.length).getD m (0,0)=(d,a):=by rw[ag,a8];rfl
 obtain⟨R,hR⟩:∃R,R=rv S (pr (PP ps) c) ps.length d a:=⟨_,rfl⟩;obtain⟨w,hw⟩:∃w:Nat->Int,w=λo=>PP ps d (2*o)*PP ps a (2*o+1)*R:=⟨_,rfl⟩;have eB:bs (PP ps) (rv S (pr (PP ps) c) ps.length) c (rF ps.length) (m+1)=bo w d a (bs (PP ps) (rv S (pr (PP ps) c) ps.length) c (rF ps.length) m) c:=by rw[bs,eD,hw,hR]
 have br:=Zn hC.s hC.p hn b6 b5 J;unfold xj at gT
 dsimp only at gT
 rw[<-hR]at gT br;show⟨T,_,rfl,pX.J gT,rfl,?_⟩;obtain⟨l1,a6,b4,b2,e1⟩:=t tw3.c L;show AK (pq.J (tw3.c _ _ A)) (AU (a4 L)) ?_;show BN (.inl (pq.J a6)) ?_;have el:(((l1.map V.a).length:Nat):Int)=((2*c:Nat):Int):=by rw[az,b4]
 rw[el];show⟨0,_,2,rfl,⟨by decide,by decide,CT oZ oZ oZ oZ⟩,?_⟩;have er:rN 0 ((2*c:Nat):Int) 2=c:=by rw[Ca];lia
 rw[er];generalize bs (PP ps) (rv S (pr (PP ps) c) ps.length) c (rF ps.length) m=B at*
 refine CU (λo O M=>∃ (o6 o7:Option V),O=[ae (.b p),ae (.b ss),ae (.b D),ae (.a (d:Int)),ae (.a (a:Int)),ae (.a R),o6,o7]/\Tw H M D I ps.length (2*c) (bo w d a B o)/\M F0=ae (.a U)/\Rf M U ((rF ps.length).map (xj S (pr (PP ps) c) ps.length))) ⟨_,_,rfl,tw3,g3,X⟩ ?_ ?_
 rotate_left
 .intro O H4 z_;obtain⟨o6,o7,rfl,G,g4,a9⟩:=z_;ext;exact⟨_,_,_,_,_,rfl,eB▸G,g4,a9⟩
 clear tw3 g3 X a6;intro o O H4 ho z_;obtain⟨o6,o7,rfl,G,g4,a9⟩:=z_;have e0:(0:Int)+(o:Int)*2=((2*o:Nat):Int):=by lia
 have e2:((2*o:Nat):Int)+1=((2*o+1:Nat):Int):=by lia
 rw[e0];obtain⟨l1,a6,b4,b2,e1⟩:=t G.c L;obtain⟨l2,c5,c9,c0,e3⟩:=t G.c J;have gx:l1[2*o]? =ae (l1.getD (2*o) 0):=by rw[ag,al oZ];rfl
 have gy:l2[2*o+1]? =ae (l2.getD (2*o+1) 0):=by rw[ag,al oZ];rfl
 have bx:=b2.J (2*o);have a0:=c0.J (2*o+1);show AK (pq.J (G.c _ _ A)) (AU (a4 L)) ?_;show AK (pq.J a6) (AU (by rw[ao,gx];rfl)) ?_;show AK (pq.J (G.c _ _ A)) (AU (a4 J)) ?_;ext
 first|rw[e2]|skip
 refine AK (pq.J c5) (AU (by rw[ao,gy];rfl)) ?_;refine Bl (BH bx.1 bx.2 DT) (BH a0.1 a0.2 DT) ?_;show Bl (BH (Int.mul_nonneg bx.1 a0.1) (Int.le_trans (Int.mul_le_mul bx.2 a0.2 a0.1 oY) (by decide:pD*pD<=4*(pD*pD))) Nc) (BH br.1 br.2 II) ?_;have ew:l1.getD (2*o) 0*l2.getD (2*o+1) 0*R=w o:=by rw[hw,<-e1,<-e3]
 rw[ew];show AK (pq.J G.a) (AU (G.at L)) ?_;show El (pq.J (G.b d L)) (Mb (j:=2*o) oZ) ?_;ext
 first|refine D7 ?_ |skip
 refine Bj (G.b d L) (j:=2*o) (by rw[Ma];unfold qW;rw[aU oZ,aU oZ];exact congrArg ae (fb _)) ?_;have Y:=G.Z (i:=d) (j:=2*o) (v:=bo w d a B o d (2*o)+w o) L;have g5:(upd H4 (I d) (.a ((rQ (2*c) (bo w d a B o d)).set (2*o) (.a (bo w d a B o d (2*o)+w o))))) F0=ae (.a U):=by rw[AG (b3 d L)];exact g4
 have c7:=a9.Z (o:= .a ((rQ (2*c) (bo w d a B o d)).set (2*o) (.a (bo w d a B o d (2*o)+w o)))) (G.b d L);generalize upd H4 (I d) _=H5 at*
 show AK (pq.J Y.a) (AU (Y.at J)) ?_;ext
 first|rw[e2]|skip
 refine El (pq.J (Y.b a J)) (Mb (j:=2*o+1) oZ) ?_;ext
 first|refine D7 ?_ |skip
 refine Bj (Y.b a J) (j:=2*o+1) (by rw[Ma];unfold qW;rw[aU oZ,aU oZ];exact congrArg ae (fb _)) ?_;have b8:=Y.Z (i:=a) (j:=2*o+1) (v:=(if a=d/\2*o+1=2*o then bo w d a B o d (2*o)+w o else bo w d a B o a (2*o+1))+w o) J;have g6:=AG (H:=H5) (o:= .a ((rQ (2*c) (λb=>if a=d/\b=2*o then bo w d a B o d (2*o)+w o else bo w d a B o a b)).set (2*o+1) (.a ((if a=d/\2*o+1=2*o then bo w d a B o d (2*o)+w o else bo w d a B o a (2*o+1))+w o)))) (b3 a J);have c6:=c7.Z (o:= .a ((rQ (2*c) (λb=>if a=d/\b=2*o then bo w d a B o d (2*o)+w o else bo w d a B o a b)).set (2*o+1) (.a ((if a=d/\2*o+1=2*o then bo w d a B o d (2*o)+w o else bo w d a B o a (2*o+1))+w o)))) (Y.b a J);rw[g5]at g6;ext;exact⟨_,_,rfl,b8,g6,c6⟩
def Gh:Ak P w K mg base (k+5) "how_many" ["k","row"] (Hk K cs NW):=pJ.J (T.f.J 15) (pI ["k","row"]) λo H b h=>by
 refine⟨_,(AD (Au (Aa (CG T) b A5 (pk l' ma))) (AE (AJ (AN (FO T) b (pe (AN (FP T) b (pe (AN (FN T) b (pk l' ma))))))))),?_⟩;rcases h with⟨kk,a,rfl,m,l,c,q⟩|⟨n,v,rfl,g⟩
 rotate_left
 .ext;exact .inr ⟨n,v,rfl,g.J (pj.ap H)⟩
 .have d:=Ai c;show .inl (Bs m l c (λB i=>?_));show EM m l d (λr G j x y=>?_);show EO (k:=kk.toNat) y (by rw[az];exact d) oZ (CH oZ) (λI J z tb=>?_);show EK tb ?_;have e:qa (PP (a.map (pO (ones kk.toNat)))) kk.toNat 0 (a.map (pO (ones kk.toNat))).length=qc kk.toNat a:=by
   unfold qa qc;rw[aU (Nat.zero_le _),Nat.sub_zero,az]
  rw[e];exact q z ((i.J x).J tb.c)
def Qu:qp P w K mg base (k+1) "may_open" ["place"] (se K):=pJ.u (T.f.J 16) (pI ["place"]) λa _ e h=>by
 obtain⟨p,l,rfl,i,q⟩:=h;have j:=e.J;refine⟨_,(AE (AJ (Aj (Te K rfl) rfl (T.N 2) PyProof.Rows.boot_any (pe (Xy K l' AC))))),?_⟩;show⟨rfl,p,_,rfl,pq.J i,λr b=>?_⟩;have d:=AL b (.a (BF (l.map V.a)));rw[Ky _ _ _ (Nat.le_refl _)]at d⊢;refine⟨r,BF l,rfl,pq.J AF,?_⟩;exact q _ d
def Pz:qp P w K mg base (k+2) "depths_before" ["places","sums","shorter","stop"] (KZ):=pJ.u (T.f.J 17) (pI ["places","sums","shorter","stop","found"]) λnd H hr h=>by
 obtain⟨pp,sp,sh,d,a,H0,ad,j,L,rfl,hP,hT,hL,v,a3,ha,hD,q⟩:=h;have hu:=hr.J;refine⟨_,(AD (Qk (i:=4) nd rfl (lY rfl) (own:=["start","depth"]) (sel:=[0,3,1,2]) (TQ (osc:=(AX (top 40))) (N:=["places","sums","shorter","stop","found"]) bg) rfl (CI rfl (T.N 11) (pe nc)) oY (λ_ _ _ _ _=>(Am (i:=0) (show(["start","depth","places","stop","sums","shorter"]:hE).Nodup from by decide +kernel) rfl (lY rfl))) (λ_ _ _ _ _=>Fl (PW.J (DW (BD K (AN (Qu T) hr (pe (AH K mm l')))) (DU (AS Cf (AH K (AH K nt (AI AM l' AC)) nc) AC))))) (λ_ _ _ _ _=>(C9 K (AH K nS l'))) (λ_ _ _ _ _=>(Am (i:=1) (show(["start","depth","places","stop","sums","shorter"]:hE).Nodup from by decide +kernel) rfl (lY rfl))) (λ_ _ _ _ _=>BC) (λ_ _ _ _ _=>(AI AM ma AC))) (AD (AV (AS Cf (AH K (AH K ma AC) nc) AC) (AE (Au (Ax K oN oU oS B7 nt (pe AC)))) AW) (AE (AJ (UU K (T.N 13) (T.N 14) hr rfl nt))))),?_⟩;show⟨_,rfl,by lia,by lia,?_⟩;rw[fb];obtain⟨pa,s,m⟩:=id hP;obtain⟨la,t,S⟩:=id hL;have hn:(a.map (pO (ones d))).length=a.length:=az ..;rw[hn]at s m;rw[v]at t S;have a2:((aH j).flatMap (fB d a j L)).length<=2520:=bw (IB (j:=j) hD j) oZ;refine TR (λi=>(fB d a j L i).map V.a) (λD O M B Q=>?_) (λD i O N M hi B Q A=>?_)
 rotate_left
 .have e0:(0:Int)+(i:Int)=(i:Int):=by lia
  rw[e0];have ea:a[i]? =ae (a.getD i 0):=by rw[ag,al oZ];rfl
  have gp:O (pa i)=ae (iL (pO (ones d) (a.getD i 0))):=by
   have:=B _ _ (m i oZ);rw[ag,ao,ea]at this;exact this
  have gl:O (la i)=ae (iL (L.getD i [])):=B _ _ (S i hi);show AK (pq.J (B _ _ s)) (AU (by rw[ao,bb oZ];rfl)) ?_;show Q6 gp (λH2 I=>?_);ext;have nD:∀b o,H b=ae o->b≠D:=λb o z=>AQ z M
  cases g:(BF (pO (ones d) (a.getD i 0))).any λn=>n !=0 with
  |false=>
   refine pL rfl (pL rfl ?_);refine A H2 (B.J I) ?_;rw[I _ _ Q];have:fB d a j L i=[]:=by unfold fB;rw[aP (by rw[g];simp)]
   rw[this];simp
  |true=>
   refine pK rfl ?_;ext;have e1:((i:Int)+1)=((i+1:Nat):Int):=by lia
   rw[e1];have U:=hT.Z (B.J I);refine AK (pq.J U.a) (AU (U.at (i:=i+1) oZ)) ?_;show AK (pq.J (U.b (i+1) oZ)) (AU (Bu (j:=j) oZ)) ?_;ext
   by_cases J:0<qa (P1 d a) d (i+1) j
   .refine pK (by simpa using J) ?_;have ef:fB d a j L i=(L.getD i []).map (· +1):=by unfold fB;rw[aU ⟨g,J⟩]
    rw[ef]at A;have a1:(L.getD i []).length<=63:=by
     have:=M8 (j:=j) hD i;rw[ef,az]at this;exact this
    have a0:((aH i).flatMap (fB d a j L)).length<=2520:=bw (IB (j:=j) hD i) oZ;unfold Ei;show AK (pq.J (I _ _ (B _ _ t))) (AU (by rw[ao,bb oZ];rfl)) ?_;refine⟨la i,rfl,⟨_,pq.J (I _ _ gl)⟩,?_⟩;refine S0 (λx=>match x with| .a z=> .a (z+1)|y=>y) (I _ _ gl) (nD _ _ (S i hi)) (I _ _ Q) ?_ (λi2 x H3 R c s3 r=>?_) (λH3 s3 h3=>?_)
    .rw[Lx,az,az,sizeLine_eq];lia
    .rw[ao]at c;obtain⟨z,hz,rfl⟩:=dj.mp c;ext;exact r
    .refine A H3 (λb o z=>s3 b o (I b o (B b o z)) (nD b o z)) ?_;rw[h3,dC,dC];rfl
   .refine pL (by simpa using J) ?_;refine A H2 (B.J I) ?_;rw[I _ _ Q];have:fB d a j L i=[]:=by unfold fB;rw[aP (λz=>J z.2)]
    rw[this];simp
 rw[Lx]at Q;have G:=RH hD v;have X:=hT.Z B;show AK (pq.J X.a) (show pY _ (0:Int)=ae (V.b (ad 0))from AU (j:=0) (X.at (i:=0) oZ)) ?_;show AK (pq.J (X.b 0 oZ)) (AU (Bu (j:=j) oZ)) ?_;ext
 by_cases J:0<qa (P1 d a) d 0 j
 .refine pK (by simpa using J) ?_;show⟨.inl ⟨rfl,_,pq.J Q⟩,?_⟩;show⟨D,_,_,rfl,rfl,Q,by rw[az,sizeLine_eq];lia,?_⟩;show⟨D,(aH j).flatMap (fB d a j L)++[0],rfl,pq.J (by rw[AF,b0];rfl),by rw[aN];simp only[hH];lia,λx c=>?_,λp C hp Y g Z=>?_⟩
  .have hx':Dq d a j x:=(G x).mp (by
    rcases cS.mp c with z|z
    .exact .inl z
    .exact .inr ⟨by simpa using z,J⟩)
   have:=hx'.J;lia
  .have E:∀b o,H b=ae o->b≠D:=λb o z=>AQ z M;have l:H p=none:=by
    by_cases e:p=D
    .rw[e];exact M
    .rw[AG e]at hp;exact B.Z hp
   refine q p C _ l (λb o z=>?_) AF ⟨Y,λx=>?_,Z⟩
   .rw[AG (AQ z l),AG (E b o z)];exact B b o z
   .rw[g x,<-G x,cS]
    constructor
    .rintro(z|z)
     .exact .inl z
     .exact .inr ⟨by simpa using z,J⟩
    .rintro(z|z)
     .exact .inl z
     .exact .inr (by simp[z.1])
 .refine pL (by simpa using J) ?_;show⟨D,(aH j).flatMap (fB d a j L),rfl,pq.J Q,by lia,λx c=>?_,λp C hp Y g Z=>?_⟩
  .have hx':Dq d a j x:=(G x).mp (.inl c);have:=hx'.J;lia
  .refine q p C _ (B.Z hp) (B.J (AL hp _)) AF ⟨Y,λx=>?_,Z⟩;rw[g x,<-G x];exact⟨λz=> .inl z,λz=>z.elim id λy=>absurd y.2 J⟩
def Px:qp P w K mg base (k+3) "depths_by_stop" ["k","row"] (KY):=pJ.u (T.f.J 18) (pI ["k","row","places","sums","found","stop"]) λnd H G h=>by
 obtain⟨I,a,rfl,Q,R,S,q⟩:=h;have hu:=G.J;refine⟨_,(AD (AO 2 (AN (FN T) G (pk l' ma))) (AD (AO 3 (AN (FP T) G (pe mm))) (AD (AO 4 (Ad AB)) (AD (BL oQ rfl (CI rfl (T.N 11) (pe (AI AM (Al K (T.N 7) (pe ma)) AC))) (Ah 5) (AE (Au (Ax K oN oU oS B7 nt (pe (AN (Pz T) G (AA mm (pF nc nt nS)))))))) (AE (AJ nt)))))),?_⟩;show EM Q R S (λA H1 D v Z=>?_);show EO (k:=I.toNat) Z (by rw[az];exact S) oZ (CH oZ) (λs a0 r tb=>?_);have U:=Z.J tb.c;have en:(a.map (pO (ones I.toNat))).length=a.length:=az ..;rw[en]at tb;show⟨small (n:=0) oY,λx d=>?_⟩;have t:=AL d (.a []);show⟨_,rfl,by lia,by lia,?_⟩;have O:((a.length:Int)+1).toNat=a.length+1:=by lia
 rw[O];have e:pj H r:=v.J tb.c;have y:H x=none:=e.Z d;refine HW (λj g H'=>∃ (J:Nat->Addr) (L:List hO) (X:Option V),g=[ae (.a I),ae (tx a),ae (.b A),ae (.b s),ae (.b x),X]/\wF r H' x J L/\L.length=j/\∀i l,L[i]? =ae l->tM I.toNat a i l)
  ⟨λ_=>0,[],_,rfl,⟨d,(λ_ z=>absurd z (Nat.not_lt_zero _)),AF,(λ_ z=>absurd z (Nat.not_lt_zero _)),t⟩,rfl,λi l z=>by simp at z⟩ ?_ ?_
 .intro j g o hj Y;obtain⟨J,L,X,rfl,b,B,M⟩:=Y;have ej:(0:Int)+(j:Int)=(j:Int):=by lia
  rw[ej];show⟨.inl ⟨rfl,_,pq.J b.a⟩,?_⟩;show RG (j:=j) (U.J b.c) (tb.Z b.c) b.Z B oZ S M (λp C H4 hp n E dl=>?_);show⟨x,_,_,rfl,rfl,n _ _ b.a,by simp only[az,dt];rw[sizeLine_eq];lia,?_⟩;show⟨_,L++[C],_,rfl,b.J n hp E,by simp[B],λi l z=>?_⟩
  by_cases c:i<L.length
  .rw[List.getElem?_append_left c]at z;exact M i l z
  .rw[List.getElem?_append_right oZ]at z;have m:i=L.length:=by
    have:=(aR.mp z).1;simp at this;lia
   subst m;simp at z;subst z;rw[B];exact dl
 .intro g o Y;obtain⟨J,L,X,rfl,b,B,M⟩:=Y;ext;exact q x o J L ⟨y,λi m=>e.Z (b.e i m),b.a,b.b,e.J b.c⟩ B M
def Kh:Ak P w K mg base (k+5) "depths" ["k","row"] (KW):=pJ.J (T.f.J 19) (pI ["k","row"]) λc _ j h=>by
 obtain⟨M,a,rfl,b,d,e,q⟩:=h;have Q:=j.J;have y:=Ai e;refine BU ⟨_,(AD (Au (Aa (CG T) j BI (pk l' ma))) (AE (AJ (AH K (AN (Px T) j (pk l' ma)) (Bo Bi AC))))),?_⟩;show .inl (Bs b d e (λR x=>?_));show RE b d y (λr z B L i G H=>?_);ext;have I:L[a.length]? =ae (L.getD a.length []):=by rw[ag,al oZ];rfl
 have J:=H _ _ I;refine AK (pq.J i.a) (v:= .b (B a.length)) (Du (by simp;lia) (by simp only[az,dt];rw[G,ao,bb oZ];rfl)) ?_;exact q _ _ z (x.Z (i.e _ oZ)) (x.J i.c) (i.b _ oZ) J
def Jh:Ak P w K mg base (k+6) "may_go_on" ["k","row"] (MU):=pJ.J (T.f.J 20) (pI ["k","row"]) λg _ j h=>by
 obtain⟨x,a,rfl,b,d,i,q⟩:=h;have G:=j.J;refine BU ⟨_,(AE (AJ (BP Cf (Al K (T.N 7) (pe (Aa (Kh T) j BI (pk l' ma)))) AC))),?_⟩;show Jv b d i (λp ns y H z c B=>?_);show BN (.inl (pq.J c)) ?_;ext;rw[az];have e:decide ((0:Int)<(ns.length:Int))=v7 x.toNat a:=by
  rw[<-B.J];exact decide_eq_decide.mpr oZ
 rw[e];exact q y z
def JW:Ak P w K mg base (k+6) "fewest_more" ["k","row"] (KU):=pJ.J (T.f.J 21) (pI ["k","row","found"]) λl _ i h=>by
 obtain⟨B,a,rfl,b,d,e,q⟩:=h;have G:=i.J;refine BU ⟨_,(AD (AO 2 (Aa (Kh T) i BI (pk l' ma))) (AE (AJ (BR (BD K mm) (AH K mm AC) Ar)))),?_⟩;show Jv b d e (λp g j H y c z=>?_);ext
 cases g with
 |nil=>
  refine Ek (pq.J c) ?_;refine pL rfl ?_;ext;exact q [] j y z
 |cons x r=>
  refine Ek (pq.J c) ?_;refine pK rfl ?_;show AK (pq.J c) (Dh _ _) ?_;exact q (x::r) j y z
def Lh:qp P w K mg base (k+1) "opens" ["bracket"] (uj):=pJ.u (T.f.J 22) (pI ["bracket"]) λa _ d h=>by
 obtain⟨b,rfl,q⟩:=h;have i:=d.J;refine⟨_,(AE (AJ (BP (Af K i) (AI Da l' AC) AC))),?_⟩;ext;have e:decide ((b:Int)%2=0)=decide (b%2=0):=decide_eq_decide.mpr oZ;rw[e];exact q
def JR:yL P w K mg base (k+4) aC ["self","k","row"] (VG aC):=tG.m (T.m.J 0) T.C (pI ["self","k","row"]) λnd H hr h=>by
 obtain⟨c,d,Y,a,H0,rfl,k1,k4,b4,a4,n,s0,q⟩:=h;have hu:=hr.J;have hl:=Ai b4;refine⟨_,(AD (Cq K l' (AN (FN T) hr (pk ma mm))) (AD (Cq K l' (AN (FP T) hr (pe (AY K l')))) (AD (Cq K l' AC) (AD (Cq K l' (Ad AB)) (AE (Cq K l' (Ad (pe (BE (own:=["row_sums"]) (sel:=[]) (A9 (osc:=(AX (inClass (top 47) 0))) (N:=["self","k","row"]) bg) rfl (C9 K (AY K l')) (λ_ _ _ _ _=>(Am (i:=0) (show(["row_sums"]:hE).Nodup from by decide +kernel) rfl (lY rfl))) (Av oY) (λ_ _ _ _ _=>BC) (λ_ _ _ _ _=>(AH K l' (Bo Bi AC)))))))))))),?_⟩;show EM k1 k4 hl (λB H1 a3 s1 b7=>?_);ext;have L:=s1 _ _ a4;refine⟨c,aC,d,[],rfl,L,T.C.a,(T.C.Z 2),by show 0<1000;decide,?_⟩;have g2:(upd H1 c (.c aC d (Aw "places" (.b B) []))) c=ae (.c aC d [("places", .b B)]):=AF;have A:pf c H1 (upd H1 c (.c aC d (Aw "places" (.b B) []))):=pf.ap;generalize upd H1 c _=G2 at*
 have b9:B≠c:=λz=>by rw[z,a4]at a3;cases a3
 have M:∀b xs,H1 b=ae (.a xs)->G2 b=ae (.a xs):=λb xs z=>A _ _ z λe=>by rw[e,L]at z;cases z
 have a5:qV G2 B (a.map (pO (ones Y.toNat))):=by
  obtain⟨pd,h1,h2⟩:=b7;exact⟨pd,M _ _ h1,λi hi=>M _ _ (h2 i hi)⟩
 show T.C.J 2 g2 ?_;show EO (k:=Y.toNat) a5 (by rw[az];exact hl) oZ (λl b5=>CH oZ l b5) (λg ad I y=>?_);rw[az]at y;have g3:=y.c _ _ g2;have b6:=a5.J y.c;show⟨c,aC,d,_,rfl,g3,T.C.a,(T.C.Z 4),by show 1<1000;decide,?_⟩;have g4:(upd I c (.c aC d (Aw "sums" (.b g) [("places", .b B)]))) c=ae (.c aC d [("places", .b B),("sums", .b g)]):=AF;have a9:pf c I (upd I c (.c aC d (Aw "sums" (.b g) [("places", .b B)]))):=pf.ap;generalize upd I c _=G4 at*
 show⟨c,aC,d,_,rfl,g4,T.C.a,(T.C.Z 0),by show 2<1000;decide,?_⟩;have g5:(upd G4 c (.c aC d (Aw "at" (.a 0) [("places", .b B),("sums", .b g)]))) c=ae (.c aC d [("places", .b B),("sums", .b g),("at", .a 0)]):=AF;have v:=a9.J (pf.ap (p:=c) (H:=G4) (o:= .c aC d (Aw "at" (.a 0) [("places", .b B),("sums", .b g)])));generalize upd G4 c _=G5 at*
 show⟨small (n:=0) oY,λf J=>?_⟩;have Z:f≠c:=λz=>by rw[z,g5]at J;cases J
 have t6:=AL J (.a []);have b8:(upd G5 f (.a [])) f=ae (.a []):=AF;have g6:=t6 _ _ g5;have a8:=v.J (pf.Z (p:=c) t6);have Q:I f=none:=by
  cases e:I f with
  |none=>rfl
  |some o=>rw[v _ _ e Z]at J;cases J
 generalize upd G5 f _=G6 at*
 show⟨c,aC,d,_,rfl,g6,T.C.a,(T.C.Z 1),by show 3<1000;decide,?_⟩;have g7:(upd G6 c (.c aC d (Aw "closings" (.b f) [("places", .b B),("sums", .b g),("at", .a 0)]))) c=ae (.c aC d [("places", .b B),("sums", .b g),("at", .a 0),("closings", .b f)]):=AF;have t:=a8.J (pf.ap (p:=c) (H:=G6) (o:= .c aC d (Aw "closings" (.b f) [("places", .b B),("sums", .b g),("at", .a 0)])));have a7:(upd G6 c (.c aC d (Aw "closings" (.b f) [("places", .b B),("sums", .b g),("at", .a 0)]))) f=ae (.a []):=by rw[AG Z];exact b8
 generalize upd G6 c _=G7 at*
 have b0:g≠c:=λz=>by have:=y.g;rw[z,g2]at this;cases this
 show T.C.J 4 g7 ?_;ext;have S:=t _ _ y.a b0;have b1:∀i,i<=a.length->ad i≠c:=λi hi z=>by have:=y.f i hi;rw[z,g2]at this;cases this
 refine⟨g,rfl,⟨_,pq.J S⟩,?_⟩;refine Ts (λi=>V.b (ad i)) (λi=>V.a (W Y.toNat a i [])) (small oZ) S (λD H8 hD E hy=>?_) (λi H8 R hi E r=>?_)
 rotate_left
 .have O:=E _ _ (t _ _ (y.b i oZ) (b1 i oZ));show AK (pq.J O) (Du (by rw[Cp];lia) (by rw[Cp,Nat.add_sub_cancel];exact Bu (Nat.le_refl _))) ?_;have e:qa (qy Y.toNat a) Y.toNat i a.length=W Y.toNat a i []:=by unfold qa W;rw[aU oZ]
  have:=r H8 (pj.ap _);rw[<-e]at this;exact this
 have hy:H8 D=ae (iL (Ci Y.toNat a [])):=by rw[hy];unfold iL Ci;rw[dC];rfl
 have g8:=E _ _ g7;have a6:=E _ _ a7;have s:=t.J (pf.Z (p:=c) E);show⟨small (n:=1) oY,λu G=>?_⟩;have nrc:u≠c:=(AQ g8 G).symm;have a0:f≠u:=AQ a6 G;have a1:D≠u:=AQ hy G;have b3:D≠c:=(AQ g7 hD).symm;have b2:D≠f:=(AQ a7 hD).symm;have U:I u=none:=by
  cases e:I u with
  |none=>rfl
  |some o=>rw[s _ _ e nrc]at G;cases G
 have t9:=AL G (.a [.b D]);show⟨c,aC,d,_,rfl,by rw[AG nrc.symm];exact g8,T.C.a,(T.C.Z 3),by show 4<1000;decide,?_⟩;have a2:∀b o,H0 b=ae o->I b=ae o/\b≠c:=λb o z=>by
  have hb:b≠c:=AQ z n;exact⟨y.c _ _ (A _ _ (s1 _ _ (s0 _ _ z)) hb),hb⟩
 have X:∀ {b:Addr},I b=none->H0 b=none:=fun{b} z=>by
  cases e:H0 b with
  |none=>rfl
  |some o=>rw[(a2 b o e).1]at z;cases z
 refine q _ ⟨d,B,g,f,u,G2,I,ad,[D],?_⟩;refine{c:=(by rw[AF];rfl),t:=b6,s:=y,l:=λb o z hb=>?_,o:=λxs z=>(by rw[g3]at z;cases z),n:=Q,m:=U,r:=a0,p:=?_,d:=?_,b:=rfl,e:=λj x hx=>?_,u:=λb o z=>?_,g:=n,h:=X Q,f:=X U,i:=hl,q:=oZ}
 .rw[AG hb];exact t9 _ _ (s _ _ z hb)
 .rw[AG Z,AG a0];exact a6
 .rw[AG nrc,AF];rfl
 .cases j with
  |zero=>
   have hx:D=x:=Option.some.inj hx;subst hx;exact⟨by rw[AG b3,AG a1];exact hy,b2,a1⟩
  |succ j=>simp at hx
 .obtain⟨z1,z2⟩:=a2 b o z;rw[AG z2];exact t9 _ _ (s _ _ z1 z2)
def Pk:xo P w K mg base (k+2) aC "many_in_all" ["self"] (wM aC):=tG.u (T.m.J 1) (pI ["self"]) λl _ b h=>by
 obtain⟨n,d,a,i,e,j,rfl,⟨x,y,f,o,g,p,r,z,B,c⟩,q⟩:=h;have G:=b.J;refine⟨_,(AE (AJ (AN (FO T) b (pe (AY K l'))))),?_⟩;show T.C.J 4 c.c ?_;show EK c.yS ?_;exact q
def JQ:xo P w K mg base (k+1) aC "many_closing" ["self","start","closing"] (tQ aC):=tG.u (T.m.J 2) (pI ["self","start","closing","rest"]) λs _ hr h=>by
 obtain⟨co,b,a,i,G,H0,d,p,rfl,⟨dx,pl,sm,cl,rs,Hz,Hb,ad,ra,c⟩,H,hp,q⟩:=h;have hu:=hr.J;have g:=c.i;have hk:=c.q;obtain⟨x0,I,J⟩:=c.ld;refine⟨_,(AD (Cu (i:=3) s rfl (Or.inr rfl) (AH K (AY K l') (Bo Bi AC))) (AE (AJ (Aj (FT K rfl) rfl (T.N 16) PyProof.Rows.boot_sum (pe (BE (own:=["end"]) (sel:=[3,2,1,0]) (A9 (osc:=(AX (inClass (top 47) 2))) (N:=["self","start","closing","rest"]) bg) rfl (B6 rfl (T.N 11) (pF ma (Al K (T.N 7) (pe (AY K l'))) AC)) (λ_ _ _ _ _=>(Am (i:=0) (show(["end","rest","closing","start","self"]:hE).Nodup from by decide +kernel) rfl (lY rfl))) (Av oY) (λ_ _ _ _ _=>BC) (λ_ _ _ _ _=>(AI Be (AI Be (AH K (AH K (AY K nt) nc) l') (AH K (AH K (AY K nt) l') mm)) (AH K ma (AI AM l' AC)))))))))),?_⟩;show T.C.J 3 c.c ?_;show AK (pq.J c.d) I ?_;show T.C.J 2 c.c ?_;obtain⟨px,L,z⟩:=Mh c.Z;rw[az]at z;show BN (.inl (pq.J L)) ?_;rw[z];show⟨_,_,_,rfl,⟨by decide,by decide,CT oZ oZ oZ oZ⟩,?_⟩;rw[show rN (d:Int) (a.length:Int) 2=(a.length-d+1)/2 by rw[Ca];lia];refine KO (λe=>V.a (qa (qy b a) b d (d+2*e)*qy b a (d+2*e) (2*p+1)*W b a (d+2*e+1) G)) (small oZ) (λD M hD x f=>?_) (λe M R he x r=>?_)
 .have A:((aH ((a.length-d+1)/2)).map λe=>V.a (qa (qy b a) b d (d+2*e)*qy b a (d+2*e) (2*p+1)*W b a (d+2*e+1) G))=((aH ((a.length-d+1)/2)).map λe=>qa (qy b a) b d (d+2*e)*qy b a (d+2*e) (2*p+1)*W b a (d+2*e+1) G).map V.a:=by rw[dC];rfl
  rw[A]at f;show GF (pq.J f) ?_;rw[FR,<-Wg b a d p G H];exact q M x
 obtain⟨j,E⟩:∃j:Nat,j=d+2*e:=⟨_,rfl⟩;have e2:((d:Int)+(e:Int)*2)=(j:Int):=by lia
 have n:j<a.length:=by lia
 rw[<-E]at r;rw[e2];have B:=x _ _ c.c;have y:=c.yS;obtain⟨ps,o,Q,S,t,U⟩:=Nf c.Z (i:=j) (by rw[az];exact n);have X:(a.map (pO (ones b))).getD j []∈a.map (pO (ones b)):=by
  rw[ag,al (by rw[az];exact n)];exact d2 _
 have v:=(CH hk _ X).1;show T.C.J 4 B ?_;show AK (pq.J (x _ _ y.a)) (AU (y.at (i:=d) H)) ?_;show AK (pq.J (x _ _ (y.b d H))) (AU (Bu oZ)) ?_;show T.C.J 2 B ?_;show AK (pq.J (x _ _ Q)) (AU S) ?_;ext;have Y:(2*(p:Int)+1)=((2*p+1:Nat):Int):=by lia
 have Z:(((a.map (pO (ones b))).getD j []).map V.a)[2*p+1]? =ae (.a (qy b a j (2*p+1))):=by
  rw[ao,al (show 2*p+1<((a.map (pO (ones b))).getD j []).length by lia)];show ae (V.a _)=ae (V.a (((a.map (pO (ones b))).getD j []).getD (2*p+1) 0));rw[ag (l:=(a.map (pO (ones b))).getD j []),al (show 2*p+1<((a.map (pO (ones b))).getD j []).length by lia)]
  rfl
 rw[Y];refine AK (pq.J (x _ _ U)) (AU Z) ?_;show Bl (yb (Hi hk oZ).1 (Hi hk oZ).2 Fx) (yb (Es hk _ _).1 (Es hk _ _).2 DT) ?_;ext;have O:((j:Int)+1)=((j+1:Nat):Int):=by lia
 rw[O];refine AK (pq.J (x _ _ J)) (AU (Mc oZ)) ?_;show Bl (Wi hk oZ) (yb (GR hk g _ _).1 (GR hk g _ _).2 Fx) ?_;exact r M (pj.ap _)
def Gb:xo P w K mg base (k+2) aC "many_with" ["self","bracket"] (vQ aC):=tG.u (T.m.J 3) (pI ["self","bracket"]) λnd H L h=>by
 obtain⟨n,d,a,i,J,N,b,rfl,X,f,hb,q⟩:=h;obtain⟨E,pl,sm,cl,rs,Hz,Hb,ad,r,c⟩:=id X;have Y:=L.J;have hl:=c.i;have hk:=c.q;obtain⟨ps,s,M,Q,t,R⟩:=Nf c.Z (i:=i) (by rw[az];exact f);have S:(a.map (pO (ones d))).getD i []∈a.map (pO (ones d)):=by
  rw[ag,al (by rw[az];exact f)];exact d2 _
 have v:=(CH hk _ S).1;have U:(((a.map (pO (ones d))).getD i []).map V.a)[b]? =ae (.a (qy d a i b)):=by
  rw[ao,al (show b<((a.map (pO (ones d))).getD i []).length by lia)];show ae (V.a _)=ae (V.a (((a.map (pO (ones d))).getD i []).getD b 0));rw[ag (l:=(a.map (pO (ones d))).getD i []),al (show b<((a.map (pO (ones d))).getD i []).length by lia)]
  rfl
 refine⟨_,(AD (AV (AS (Af K Y) (AH K (AH K (AY K l') (AY K l')) ma) AC) (AE (AJ AC)) AW) (AD (AV (BD K (AN (Lh T) L (pe ma))) (AE (AJ (DZ T.C.a (JQ T) L l' (pk (AI AM (AY K l') AC) (AI AM ma AC))))) AW) (AD (AV (PW.J (BX (Bb (BD K (AY K l'))) (Ba (AS (CA K Y) (AH K (AY K l') (Bo Bi AC)) ma)))) (AE (AJ AC)) AW) (AE (AJ (AH K (AH K (AY K l') (Bo Bi AC)) (AI AM (AY K l') AC))))))),?_⟩;show T.C.J 2 c.c ?_;show T.C.J 0 c.c ?_;show AK (pq.J M) (AU Q) ?_;show AK (pq.J R) (AU U) ?_;ext
 by_cases B:qy d a i b=0
 .refine pK (be B) ?_;ext;have e:mw d a i J b=0:=by
   unfold mw
   split
   .rw[B,Int.zero_mul]
   .cases J with
    |nil=>rfl
    |cons o y=>
     show(if 2*o+1=b then qy d a i b*W d a (i+1) y else 0)=0
     split
     .rw[B,Int.zero_mul]
     .rfl
  have:=q H (pj.ap H);rw[e]at this;exact this
 have Z:qy d a i b=1:=(Io hk f).resolve_left B;refine pL (ba B) ?_;show Kf ?_;ext;have g:((i:Int)+1)=((i+1:Nat):Int):=by lia
 by_cases j:b%2=0
 .refine pK (be j) ?_;show⟨n,E,_,rfl,c.c,rfl,?_⟩;show T.C.J 0 c.c ?_;ext;have D:((b:Int)+1)=2*((b/2:Nat):Int)+1:=by lia
  rw[g,D];refine⟨n,d,a,i,J,N,i+1,b/2,rfl,X,by lia,by lia,λO y=>?_⟩;have:=q O y;unfold mw at this;rw[aU j,Z,Int.one_mul]at this;exact this
 refine pL (ba j) ?_;show T.C.J 1 c.c ?_;refine Ek (pq.J c.p) ?_
 cases J with
 |nil=>
  show pK rfl ?_;refine pK rfl ?_;ext;have:=q H (pj.ap H);unfold mw at this;rw[aP j]at this;exact this
 |cons o y=>
  have A:(B0 (o::y)).isEmpty=false:=by rw[EU];simp
  rw[A];show pL rfl ?_;show T.C.J 1 c.c ?_;show AK (pq.J c.p) (TU o y) ?_;ext
  by_cases G:2*o+1=b
  .refine pL (by rw[show(2*(o:Int)+1)=(b:Int) by lia];simp) ?_;show T.C.J 3 c.c ?_;ext;obtain⟨p,I⟩:∃x,r[y.length]? =ae x:=⟨_,al (by rw[c.b,aJ];lia)⟩;have z:=(c.e _ p I).1;rw[aJ,show y.length+1-y.length=1 by lia,List.drop_one,List.tail_cons]at z;refine AK (pq.J c.d) (U7 (by rw[az,c.b,aJ];lia) (by rw[az,c.b,aJ,ao,show y.length+1+1-2=y.length by lia,I];rfl)) ?_;show T.C.J 0 c.c ?_;ext;rw[g];refine AK (pq.J z) (AU (Mc oZ)) ?_;have:=q H (pj.ap H);unfold mw at this;rw[aP j]at this;simp only[aU G,Z,Int.one_mul]at this;exact this
  .refine pK (by rw[Bool.not_eq_true',decide_eq_false_iff_not];lia) ?_;ext;have:=q H (pj.ap H);unfold mw at this;rw[aP j]at this;simp only[aP G]at this;exact this
def JY:xo P w K mg base (k+2) aC "take" ["self","bracket"] (vR aC):=tG.u (T.m.J 4) (pI ["self","bracket","rest"]) @λ_ _ _ _ s _ _ _ nd H hr h=>by
 obtain⟨p,U,a,i,st,O,b,rfl,hC,hi,hb,a8,a3,q⟩:=h;obtain⟨B,J,l,g,f,t,v,X,ra,c⟩:=id hC;have hu:=hr.J;have hl:=c.i;have hk:=c.q;refine⟨_,(AD (RU K M4 l' AC) (AE (AV (BD K (AN (Lh T) hr (pe ma))) (AD (Gf (i:=2) nd rfl (lY rfl) (own:=["start"]) (sel:=[0,1]) (A9 (osc:=(AX (inClass (top 47) 4))) (N:=["self","bracket","rest"]) bg) rfl (CI rfl (T.N 11) (pe (AI AM (Al K (T.N 7) (pe (AY K l'))) AC))) (λ_ _ _ _ _=>(Am (i:=0) (show(["start","self","bracket"]:hE).Nodup from by decide +kernel) rfl (lY rfl))) (Av oY) (λ_ _ _ _ _=>BC) (λ_ _ _ _ _=>(DZ T.C.a (JQ T) hr ma (pk l' (AI AM mm AC))))) (AD (Au (Ax K oN oU oS B7 (AY K l') (pe mm))) (AE (Au (Ax K oN oU oS B7 (AY K l') (pe (AI AM ma AC))))))) (AD (Au (Hw K oN PySem.F.slot_list_pop PySem.F.type_list_pop IU (AY K l'))) (AE (Au (Hw K oN PySem.F.slot_list_pop PySem.F.type_list_pop IU (AY K l')))))))),?_⟩;show⟨p,aC,B,_,_,(rfl),c.c,T.C.a,(T.C.Z 0),rfl,?_⟩;show .inl ⟨_,_,rfl,rfl,?_⟩;refine⟨B,_,c.c,by show 5<1000;decide,?_⟩;have e1:(((i+1:Nat):Int))=(i:Int)+1:=by lia
 have d:rk aC O (upd H p (.c aC B (Aw "at" (.a ((i:Int)+1)) (cf J l g f i)))) p U a (i+1) st B J l g f t v X ra:=by
  have c0:=c.at (i+1);have e0:cf J l g f (((i+1:Nat):Int))=Aw "at" (.a ((i:Int)+1)) (cf J l g f i):=by rw[e1];rfl
  rw[e0]at c0;exact c0
 generalize upd H p _=G1 at*
 have a4:Co aC O G1 p U a (i+1) st:=⟨B,J,l,g,f,t,v,X,ra,d⟩;show Kf ?_;ext
 by_cases G:b%2=0
 .have M:qI st b=b/2::st:=by unfold qI;rw[aU G]
  rw[M]at q;have e2:((b:Int)+1)=2*((b/2:Nat):Int)+1:=by lia
  refine pK (be G) ?_;show T.C.J 2 d.c ?_;obtain⟨px,a5,Y⟩:=Mh d.Z;rw[az]at Y;show BN (.inl (pq.J a5)) ?_;rw[Y];show⟨_,rfl,by lia,by lia,?_⟩;rw[show((a.length:Int)+1).toNat=a.length+1 by lia];refine LD (λs=>V.a (W U a s (b/2::st))) (small oZ) (λD E hD I hy=>?_) (λj E R hj I r=>?_)
  rotate_left
  .have ej:(0:Int)+(j:Int)=(j:Int):=by lia
   rw[ej];show⟨p,B,_,rfl,I _ _ d.c,rfl,?_⟩;ext;rw[e2];exact⟨p,U,a,i+1,st,O,j,b/2,rfl,a4.J I,by lia,by lia,λH3 s3=>r H3 s3⟩
  have hy:E D=ae (iL (Ci U a (b/2::st))):=by rw[hy];unfold iL Ci;rw[dC];rfl
  have a1:D≠g:=(AQ d.p hD).symm;have a0:D≠f:=(AQ d.d hD).symm;have Q:=I _ _ d.c;have y:=I _ _ d.d;have L:=I _ _ d.p;show T.C.J 3 Q ?_;refine⟨.inl ⟨rfl,_,pq.J y⟩,?_⟩;show⟨f,_, .b D,rfl,rfl,y,by rw[az,d.b,sizeLine_eq];lia,?_⟩;have c2:rk aC O E p U a (i+1) st B J l g f t v X ra:=by
   exact{c:=Q,t:=d.t,s:=d.s,l:=λb o z n=>I _ _ (d.l b o z n),o:=d.o,n:=d.n,m:=d.m,r:=d.r,p:=L,d:=y,b:=d.b,e:=λj x hx=>⟨I _ _ (d.e j x hx).1,(d.e j x hx).2⟩,u:=d.u.J I,g:=d.g,h:=d.h,f:=d.f,i:=d.i,q:=d.q}
  have A:=c2.mt hy a1 a0;have S:=c2.ap y;show T.C.J 1 (by rw[AG S.symm];exact Q) ?_;have e:(upd E f (.a (ra.map V.b++[.b D]))) g=ae (.a (B0 st)):=by rw[AG d.r];exact L
  refine⟨.inl ⟨rfl,_,pq.J e⟩,?_⟩;ext;rw[e2];refine⟨g,_,_,rfl,rfl,e,by unfold B0;rw[az,List.length_reverse,sizeLine_eq];lia,?_⟩;show q _ ⟨B,J,l,g,f,t,v,X,ra++[D],?_⟩;have ea:(ra++[D]).map V.b=ra.map V.b++[.b D]:=by rw[b0];rfl
  rw[ea,EU]at A;exact A
 have M:qI st b=st.tail:=by unfold qI;rw[aP G]
 rw[M]at q;refine pL (ba G) ?_
 cases st with
 |nil=>exact absurd rfl (a3 oZ)
 |cons o s'=>
  have A:=d.pop;have S:=d.ap d.d;have Z:=d.b;rw[aJ]at Z;obtain⟨xl,a2⟩:∃x,(ra.map V.b)[(ra.map V.b).length-1]? =ae x:=⟨_,al (by rw[az];lia)⟩;show T.C.J 3 d.c ?_;refine⟨.inl ⟨rfl,_,pq.J d.d⟩,?_⟩;refine⟨f,_,xl,rfl,rfl,d.d,a2,?_⟩;have a6:(ra.map V.b).dropLast=ra.dropLast.map V.b:=by rw[List.map_dropLast]
  rw[a6];show T.C.J 1 (by rw[AG S.symm];exact d.c) ?_;have e:(upd G1 f (.a (ra.dropLast.map V.b))) g=ae (.a (B0 (o::s'))):=by rw[AG d.r];exact d.p
  refine⟨.inl ⟨rfl,_,pq.J e⟩,?_⟩;refine⟨g,_, .a (2*(o:Int)+1),rfl,rfl,e,by rw[EU];simp,?_⟩;have a7:(B0 (o::s')).dropLast=B0 s':=by rw[EU,List.dropLast_concat]
  rw[a7];ext;exact q _ ⟨B,J,l,g,f,t,v,X,ra.dropLast,A⟩
def Gc:Ak P w K mg base (k+5) "nth_filling" ["k","row","i"] (NV K cs):=pJ.J (T.f.J 23) (pI ["k","row","i","course","left","found","bracket"]) λnd H J h=>by
 have hu:=J.J;refine⟨_,(AD (Au (Aa (CG T) J A5 (pk l' ma))) (AD (AO 3 (Ni (JR T) J T.C.c (pk l' ma))) (AD (AV (PW.J (BX (Bb (BD K (AN (Jn T) J (pe mm)))) (Ba (Bb (FX Ce E7 AC mm (Mm T.C.a (Pk T) J nc)))))) (AE (DR (T.c.J 5).2 (T.c.J 5).1 J.a Dc (pe DI))) AW) (AD (AO 4 mm) (AD (AO 5 (pC [])) (AD (PS.J (HM oQ (AS E7 (Al K (T.N 7) (pe nS)) (Al K (T.N 7) (pe ma))) (AD (AO 6 AC) (AD (HM oQ (AS OX nt (DZ T.C.a (Gb T) J nc (pe ov))) (AD (Eo (i:=4) nd rfl (lY rfl) (DZ T.C.a (Gb T) J nc (pe ov)) YO) (AE (Eo (i:=6) nd rfl (lY rfl) AC DJ)))) (AD (Au (DZ T.C.a (JY T) J nc (pe ov))) (AE (Eo (i:=5) nd rfl (lY rfl) (AH K (Ac (T.g.J 3)) ov) M4))))))) (AE (AJ nS)))))))),?_⟩;rcases h with⟨kk,a,n,rfl,k1,k4,p,n0,n1,q⟩|⟨kv,v,iv,rfl,g|⟨kk,a,rfl,rfl,k1,k4,p,⟨ty,hT,hp,hi⟩,rf⟩⟩
 rotate_left
 .ext;exact .inr ⟨kv,v,rfl,g.J (pj.ap H)⟩
 .have hu:=J.J;have hl:=Ai p;show .inl (Bs k1 k4 p (λj s1=>?_));ext;intro l B L R b7;have s2:pj j (upd (upd j B (.f l)) l (.c aC B [])):=λx o z=>by rw[AG (AQ z L),AG (AQ z R)];exact z
  show⟨l,B,kk,a,j,rfl,k1,k4,p,AF,L,s2,λO S=>?_⟩;refine⟨rfl,?_⟩;have U:pj H O:=by
   obtain⟨_,_,_,_,_,_,_,_,_,c⟩:=id S;exact s1.J c.u
  obtain⟨X,b4,a9,c8,b2,Y⟩:∃B Z sm E u,O l=ae (.c aC B (cf Z sm E u ((0:Nat):Int))):=by
   obtain⟨B,Z,sm,E,u,_,_,_,_,c⟩:=id S;exact⟨B,Z,sm,E,u,c.c⟩
  show⟨iv,ty,rfl,hT.J U,hp,?_⟩;ext
  by_cases e:ty="int"
  .subst e;obtain⟨i,rfl⟩:=hT.Z rfl;have hi:=hi i rfl;rw[be rfl];refine pL rfl ?_;ext
   by_cases h1:0<=i
   .refine pK (be h1) ?_;show⟨l,X,_,rfl,Y,rfl,?_⟩;show⟨l,kk.toNat,a,0,[],j,rfl,S,?_⟩;have hW:W kk.toNat a 0 []=qc kk.toNat a:=rfl;rw[hW];show pK (by rw[ba oZ];rfl) ?_;ext;exact⟨small oY,λy hy=>rf y O U (U.Z hy)⟩
   .refine pL (ba h1) ?_;show pK rfl ?_;ext;exact⟨small oY,λy hy=>rf y O U (U.Z hy)⟩
  .rw[ba e];refine pK rfl ?_;show pK rfl ?_;ext;exact⟨small oY,λy hy=>rf y O U (U.Z hy)⟩
 .have hu:=J.J;have hl:=Ai p;ext;have c0:kk.toNat<=4:=by lia
  refine .inl (Bs k1 k4 p (λj s1=>?_));ext;intro l B L R b7;have s2:pj j (upd (upd j B (.f l)) l (.c aC B [])):=λx o z=>by rw[AG (AQ z L),AG (AQ z R)];exact z
  show⟨l,B,kk,a,j,rfl,k1,k4,p,AF,L,s2,λO S=>?_⟩;refine⟨rfl,?_⟩;have a0:∀ {r:Hp} {i d},Co aC j r l kk.toNat a i d->pj H r:=fun{r i d} C=>by
   obtain⟨_,_,_,_,_,_,_,_,_,c⟩:=C;exact s1.J c.u
  have t:∀ {r:Hp} {i d},Co aC j r l kk.toNat a i d->∃B Z sm E u,r l=ae (.c aC B (cf Z sm E u i)):=fun{r i d} C=>by
   obtain⟨B,Z,sm,E,u,_,_,_,_,c⟩:=C;exact⟨B,Z,sm,E,u,c.c⟩
  show KM ?_;show pL rfl ?_;show pK (be n0) ?_;ext;obtain⟨X,b4,a9,c8,b2,Y⟩:=t S;refine⟨l,X,_,rfl,Y,rfl,?_⟩;show⟨l,kk.toNat,a,0,[],j,rfl,S,?_⟩;have hW:W kk.toNat a 0 []=qc kk.toNat a:=rfl;rw[hW];show pL (by rw[be n1];rfl) ?_;show HD (λs r=>∃ (bs d:gk) (Q:Int) (o6:Option V),s=[ae (.a kk),ae (tx a),ae (.a n),ae (.b l),ae (.a Q),ae (tx (pU bs)),o6]/\Co aC j r l kk.toNat a bs.length d/\bs.length<=a.length/\(∀o∈d,o<kk.toNat)/\d.length<=bs.length/\0<=Q/\Q<W kk.toNat a bs.length d/\∀m,NF kk.toNat a bs.length d Q m->NF kk.toNat a 0 [] n (bs++m))
   (λs _=>a.length-v0 (s.getD 5 none)) ⟨[],[],n,_,rfl,S,Nat.zero_le _,(λ_ h=>nomatch h),Nat.le_refl _,n0,n1,λm h=>h⟩ ?_
  intro s H3 z_;obtain⟨bs,d,Q,o6,rfl,C3,d2,a4,b6,l0,l1,a7⟩:=z_;have c2:(pU bs).length=bs.length:=by unfold pU;rw[az]
  show qu (λhc=>?_) (λhc=>?_)
  rotate_left
  .have he:bs.length=a.length:=by lia
   ext;rw[he,JA]at l1;have a2:d=[]:=by
    by_cases z:d=[]
    .exact z
    .rw[aP z]at l1;lia
   rw[aU a2]at l1;refine q bs H3 (a0 C3) ?_ he;have:=a7 [] ⟨he,by lia⟩;rw[List.append_nil]at this;exact this
  refine HE ?_;have M:bs.length<a.length:=by lia
  have a1:=Nu M a4;show HD (λs r=>∃ (b:Nat) (l2:Int),s=[ae (.a kk),ae (tx a),ae (.a n),ae (.b l),ae (.a l2),ae (tx (pU bs)),ae (.a (b:Int))]/\Co aC j r l kk.toNat a bs.length d/\b<2*kk.toNat/\l2=Q-sm b (mw kk.toNat a bs.length d)/\0<=l2)
   (λs _=>10-v0 (s.getD 6 none)) ⟨0,Q,rfl,C3,by lia,by show Q=Q-0;lia,l0⟩ ?_
  intro s H4 z_;obtain⟨b,l2,rfl,C4,hb,el,b9⟩:=z_;obtain⟨c6,d1,c9,d3,d0,b5⟩:=t C4;show⟨l,c6,_,rfl,b5,rfl,?_⟩;show⟨l,kk.toNat,a,bs.length,d,j,b,rfl,C4,M,hb,λH5 s5=>?_⟩;have C5:=C4.J s5;have G:sm (b+1) (mw kk.toNat a bs.length d)=sm b (mw kk.toNat a bs.length d)+mw kk.toNat a bs.length d b:=rfl;show qu (λc1=>?_) (λc1=>?_)
  .refine HE ?_;obtain⟨D,b3,a8,c7,b1,A⟩:=t C5;have c4:b+1<2*kk.toNat:=by
    by_cases z:b+1<2*kk.toNat
    .exact z
    .rw[show b+1=2*kk.toNat by lia,a1]at G;lia
   show⟨l,D,_,rfl,A,rfl,?_⟩;show⟨l,kk.toNat,a,bs.length,d,j,b,rfl,C5,M,hb,λH6 s6=>?_⟩;ext;have eb:((b:Int)+1)=((b+1:Nat):Int):=by lia
   rw[eb];refine⟨⟨b+1,_,rfl,C5.J s6,c4,by rw[G];lia,by lia⟩,?_⟩;show 10-((b+1:Nat):Int).toNat<10-((b:Nat):Int).toNat;lia
  .obtain⟨D,b3,a8,c7,b1,A⟩:=t C5;obtain⟨ew,a6,a3,b8⟩:=Nt c0 hl M a4 hb oZ;show⟨l,D,_,rfl,A,rfl,?_⟩;show⟨l,kk.toNat,a,bs.length,d,j,b,rfl,C5,M,hb,b6,a6,λH6 C6=>?_⟩;ext;have c3:pN[b]? =ae (pN.getD b 0):=by
    have:b<8:=by lia
    match b,this with
    |0,_=>rfl
    |1,_=>rfl
    |2,_=>rfl
    |3,_=>rfl
    |4,_=>rfl
    |5,_=>rfl
    |6,_=>rfl
    |7,_=>rfl
   refine BS (a:=pN) (small (n:=8) oY) (AU c3) ?_;show .inr ⟨pU bs,[pN.getD b 0],rfl,rfl,small (by rw[c2,hH];lia),?_⟩;have c5:pU bs++[pN.getD b 0]=pU (bs++[b]):=by unfold pU;rw[b0];rfl
   have I:(bs++[b]).length=bs.length+1:=by rw[aN,hH]
   rw[c5];ext;show⟨⟨bs++[b],qI d b,l2,_,rfl,by rw[I];exact C6,by lia,a3,by lia,b9,?_,λm a5=>?_⟩,?_⟩
   .rw[I,<-ew];lia
   .rw[List.append_assoc];refine a7 ([b]++m) ⟨hb,by lia,by rw[G];lia,?_⟩;rw[I,el]at a5;exact a5
   .show a.length-(pU (bs++[b])).toArray.toList.length<a.length-(pU bs).toArray.toList.length;have h2:(pU (bs++[b])).length=bs.length+1:=by unfold pU;rw[az,I]
    simp only[List.toList_toArray];lia
def Pn:Ak P w K mg base (k+6) "is_right_filling" ["k","row","thing"] (uK K):=pJ.J (T.f.J 24) (pI ["k","row","thing"]) λE H G h=>by
 obtain⟨y,a,x,rfl,m,l,I,Z⟩:=h;have t:=G.J;have O:=Ai I;refine BU ⟨_,(AD (AV (PW.J (BX (Bb (BD K (Aa (J8 T) G BI (pk l' mm)))) (BX (AS (CA K t) (Al K (T.N 7) (pe mm)) (Al K (T.N 7) (pe ma))) (Ba (Bb (BD K (Aa (Gg T) G BI (pk l' mm)))))))) (AE (AJ Cz)) AW) (AE (AJ (Aj (EV K rfl) rfl (T.N 1) PyProof.Rows.boot_all (pe (BE (own:=["sign","bracket"]) (sel:=[]) (A9 (osc:=(AX (top 49))) (N:=["k","row","thing"]) bg) rfl (Fm K rfl (T.N 17) (pk ma mm)) (λ_ _ _ _ _=>(B2 (n:=2) K rfl (Ao (Am (i:=0) (show(["sign","bracket"]:hE).Nodup from by decide +kernel) rfl (lY rfl)) (Ao (Am (i:=1) (show(["sign","bracket"]:hE).Nodup from by decide +kernel) rfl (lY rfl)) Bh)))) (F8 (DE B9 (Fq B9 DL) (Av oY) (DE B9 DL (Av oY) F9))) (λ_ _ _ _ _=>BC) (λ_ _ _ _ _=>(BP (Cv K) l' (Az (pk (Ac (T.g.J 4)) ma)) dp)))))))),?_⟩;ext;rcases Z with⟨b,rfl,A,q⟩|⟨o,J,L,u,q⟩
 rotate_left
 .refine .inl ⟨y,x,rfl,m,l, .inr ⟨o,J,L,u,?_⟩⟩;show pK rfl ?_;show pK rfl ?_;ext;exact q H (pj.ap H)
 refine .inl (Lk m l A (λU z=>?_));ext
 by_cases j:AR y b=true
 rotate_left
 .have j:AR y b=false:=by simpa using j
  have e:qh y a b=false:=by unfold qh;rw[j];rfl
  rw[e]at q;refine pK (by rw[j];rfl) ?_;show pK rfl ?_;ext;exact q U z
 have v:=Ai j;refine pL (by rw[j];rfl) ?_;ext
 by_cases M:b.length=a.length
 rotate_left
 .have e:qh y a b=false:=by unfold qh;rw[ba M,Bool.and_false];rfl
  rw[e]at q;refine pK (by rw[ba oZ];rfl) ?_;show pK rfl ?_;ext;exact q U z
 refine pL (by rw[be oZ];rfl) ?_;show .inl (Gk m l j (λC X=>?_));ext
 by_cases B:Rt b
 rotate_left
 .have e:qh y a b=false:=by unfold qh;rw[ba B,Bool.and_false];rfl
  rw[e]at q;rw[ba B];refine pK rfl ?_;ext;exact q C (z.J X)
 rw[be B];refine pL rfl ?_;show MG (λc d=> .c (decide (c=63)||decide (c=d))) M (small oZ) (λD Q hD Y s=>?_) (λi c d Ta Q R hc hd Y J r=>?_)
 .ext;have S:pq K Q D (((aH a.length).map λi=>(decide (a.getD i 0=63)||decide (a.getD i 0=b.getD i 0))).map V.c):=by rw[dC];exact pq.J s
  refine E5 S ?_;have e:(((aH a.length).map λi=>(decide (a.getD i 0=63)||decide (a.getD i 0=b.getD i 0))).all id)=qh y a b:=by
   unfold qh;rw[j,be M,be B,Bool.true_and,Bool.true_and,Bool.true_and,List.all_map]
   rfl
  rw[e];exact q Q ((z.J X).J Y)
 .refine DV (pX.J J) rfl ?_;show⟨small (n:=2) oY,λp L=>?_⟩;refine GG (.inr (pX.J AF)) rfl rfl ?_;rw[Zw];exact r _ (AL L _)
def Jg:Ak P w K mg base (k+7) "number_of" ["k","row","filling"] (KS K cs):=pJ.J (T.f.J 25) (pI ["k","row","filling","course","number","sign","bracket"]) λnd H G h=>by
 have hu:=G.J;refine⟨_,(AD (Au (Aa (CG T) G A5 (pk l' ma))) (AD (AV (Bb (BD K (Aa (Pn T) G A5 (pF l' ma mm)))) (AE (DR (T.c.J 3).2 (T.c.J 3).1 G.a Dc (pe DI))) AW) (AD (Cu (i:=3) nd rfl (Or.inr rfl) (Ni (JR T) G T.C.c (pk l' ma))) (AD (AO 4 AC) (AD (PS.J (BL oQ rfl (Cb mm) (Ah 5) (AD (AO 6 (Ax K oO PySem.F.slot_str_index PySem.F.type_str_index HS (Ac (T.g.J 3)) (pe nS))) (AD (Eo (i:=4) nd rfl (lY rfl) (Aj (FT K rfl) rfl (T.N 16) PyProof.Rows.boot_sum (pe (BE (own:=["earlier"]) (sel:=[3]) (A9 (osc:=(AX (top 50))) (N:=["k","row","filling","course","number","sign","bracket"]) bg) rfl (CI rfl (T.N 11) (pe ov)) (λ_ _ _ _ _=>(Am (i:=0) (show(["earlier","course"]:hE).Nodup from by decide +kernel) rfl (lY rfl))) (Av oY) (λ_ _ _ _ _=>BC) (λ_ _ _ _ _=>(DZ T.C.a (Gb T) G ma (pe l')))))) DJ) (AE (Au (DZ T.C.a (JY T) G nc (pe ov)))))))) (AE (AJ nt))))))),?_⟩;rcases h with⟨kk,a,bs,rfl,t,s,m,hfl,q⟩|⟨kv,v,x,rfl,g|⟨kk,a,rfl,rfl,t,s,m,a7,rf⟩⟩
 rotate_left
 .ext;exact .inr ⟨kv,v,rfl,g.J (pj.ap H)⟩
 .have hu:=G.J;show .inl (Bs t s m (λH1 Y=>?_));show⟨kk,a,x,rfl,t,s,m,?_⟩;rcases a7 with⟨b,rfl,Z,hf⟩|⟨ty,hT,hp,hs⟩
  .refine .inl ⟨b,rfl,Z,λB A=>?_⟩;rw[hf];show pK rfl ?_;ext;have J:=Y.J A;exact⟨small oY,λy U=>rf y B J (J.Z U)⟩
  .refine .inr ⟨ty,hT.J Y,hp,hs,λB A=>?_⟩;show pK rfl ?_;ext;have J:=Y.J A;exact⟨small oY,λy U=>rf y B J (J.Z U)⟩
 .have hu:=G.J;have hl:=Ai m;have a8:kk.toNat<=4:=by lia
  have b9:=hfl.J;have b5:(pU bs).length=bs.length:=by unfold pU;rw[az]
  have a9:qh kk a (pU bs)=true:=by
   have:=hfl.mp a8 hl;rwa[show((kk.toNat:Nat):Int)=kk by lia]at this
  show .inl (Bs t s m (λH1 Y=>?_));show⟨kk,a,_,rfl,t,s,m, .inl ⟨pU bs,rfl,by lia,λB A=>?_⟩⟩;rw[a9];ext
  first|refine pL rfl ?_ |skip
  ext;intro n L a3 b0 b8;have J:pj B (upd (upd B L (.f n)) n (.c aC L [])):=λx o z=>by rw[AG (AQ z a3),AG (AQ z b0)];exact z
  show⟨n,L,kk,a,B,rfl,t,s,m,AF,a3,J,λH3 C3=>?_⟩;refine⟨rfl,?_⟩;have u:∀ {p:Hp} {i d},Co aC B p n kk.toNat a i d->pj H p:=fun{p i d} C=>by
   obtain⟨_,_,_,_,_,_,_,_,_,c⟩:=C;exact(Y.J A).J c.u
  have E:∀ {p:Hp} {i d},Co aC B p n kk.toNat a i d->∃L pl sm cl rs,p n=ae (.c aC L (cf pl sm cl rs i)):=fun{p i d} C=>by
   obtain⟨L,pl,sm,cl,rs,_,_,_,_,c⟩:=C;exact⟨L,pl,sm,cl,rs,c.c⟩
  show Ls (λj O p=>∃ (d:gk) (X:Int) (o5 o6:Option V),O=[ae (.a kk),ae (tx a),ae (tx (pU bs)),ae (.b n),ae (.a X),o5,o6]/\Co aC B p n kk.toNat a j d/\Fi kk.toNat a j d (bs.drop j)/\(∀o∈d,o<kk.toNat)/\d.length<=j/\num kk.toNat a 0 [] bs=X+num kk.toNat a j d (bs.drop j))
   ⟨[],0,_,_,rfl,C3,hfl,(λ_ h=>nomatch h),Nat.le_refl _,by rw[List.drop_zero];lia⟩ ?_ ?_
  rotate_left
  .intro O H4 z_;obtain⟨d,X,o5,o6,rfl,C4,f4,M,σ,I⟩:=z_;rw[b5,List.drop_length]at I;have I:num kk.toNat a 0 [] bs=X+0:=I;ext;have:=q H4 (u C4);rw[I,Int.add_zero]at this;exact this
  intro j c O H4 hc z_;obtain⟨d,X,o5,o6,rfl,C4,f4,M,σ,I⟩:=z_;obtain⟨b,Z,ec⟩:∃b,bs[j]? =ae b/\pN.getD b 0=c:=by
   unfold pU at hc;rw[ao]at hc;exact dj.mp hc
  have a1:j<bs.length:=(aR.mp Z).1;have ed:bs.drop j=b::bs.drop (j+1):=by
   rw[List.drop_eq_getElem_cons a1];congr 1;rw[al a1]at Z;exact Option.some.inj Z
  rw[ed]at f4 I;obtain⟨b1,b2,b3,b4⟩:=id f4;have a2:j<a.length:=by lia
  have b6:b<8:=by lia
  have a0:ED pN c=ae b:=by
   rw[<-ec]
   match b,b6 with
   |0,_=>exact(by first|decide|decide +kernel)
   |1,_=>exact(by first|decide|decide +kernel)
   |2,_=>exact(by first|decide|decide +kernel)
   |3,_=>exact(by first|decide|decide +kernel)
   |4,_=>exact(by first|decide|decide +kernel)
   |5,_=>exact(by first|decide|decide +kernel)
   |6,_=>exact(by first|decide|decide +kernel)
   |7,_=>exact(by first|decide|decide +kernel)
  show Im (l:=pN) a0 ?_;show⟨_,rfl,by lia,by lia,?_⟩;rw[fb];refine LD (λe=>V.a (mw kk.toNat a j d e)) (small oZ) (λD H5 hD s5 U=>?_) (λe H5 R he s5 r=>?_)
  rotate_left
  .have ee:(0:Int)+(e:Int)=(e:Int):=by lia
   rw[ee];have C5:=C4.J s5;obtain⟨Q,a6,a4,b7,a5,S⟩:=E C5;show⟨n,Q,_,rfl,S,rfl,?_⟩;ext;exact⟨n,kk.toNat,a,j,d,B,e,rfl,C5,a2,by lia,λH6 s6=>r H6 s6⟩
  have C5:=C4.J s5;have em:((aH b).map λe=>V.a (mw kk.toNat a j d e))=((aH b).map (mw kk.toNat a j d)).map V.a:=by rw[dC];rfl
  rw[em]at U;show GF (pq.J U) ?_;rw[FR];ext;obtain⟨Q,a6,a4,b7,a5,S⟩:=E C5;refine⟨n,Q,_,rfl,S,rfl,?_⟩;show⟨n,kk.toNat,a,j,d,B,b,rfl,C5,a2,b1,σ,λho=>by obtain⟨s',z⟩:=b3 ho;rw[z];simp,λH6 C6=>?_⟩;ext;have I:num kk.toNat a 0 [] bs=X+(sm b (mw kk.toNat a j d)+num kk.toNat a (j+1) (qI d b) (bs.drop (j+1))):=I;refine⟨qI d b,_,_,_,rfl,C6,b4,?_,?_,by lia⟩
  .unfold qI
   split
   .intro o ho;rcases List.mem_cons.mp ho with z|z
    .lia
    .exact M o z
   .intro o ho;exact M o (List.mem_of_mem_tail ho)
  .unfold qI
   split
   .simp;lia
   .rw[List.length_tail];lia
def Jl:qp P w K mg base (k+1) "likelier" ["one","other"] (sY):=pJ.u (T.f.J 26) (pI ["one","other"]) @λ_ _ _ _ _ _ Q _ p H Y h=>by
 obtain⟨L,M,o,n,rfl,d,e,a,q⟩:=h;have R:=Y.J;refine⟨_,(AD (AV (PW.J (BX (AS Bm l' Ar) (Ba (AS Bm ma Ar)))) (AE (AJ (BR (AS Bm ma Ar) l' ma))) AW) (AD (AV (AS (Af K R) (AH K l' AC) (AH K ma AC)) (AE (AJ (BR (AS (ZM K R) (AH K l' AC) (AH K ma AC)) l' ma))) AW) (AE (AJ (BR (AS Cf (AH K l' AC) (AH K ma AC)) l' ma))))),?_⟩
 match o,n,d,e,a,q with
 |none,none,d,e,a,q=>
  cases(show L= .d from d)
  cases(show M= .d from e)
  show pK rfl ?_
  first|refine pK rfl ?_ |skip
  show pK rfl ?_;ext;exact q _ _ (pj.ap H) (.inl ⟨rfl,rfl⟩)
 |none,ae (x,m),d,⟨S,z,B,_,_,j,c⟩,a,q=>
  cases(show L= .d from d)
  subst B;show pK rfl ?_
  first|refine pK rfl ?_ |skip
  show pL rfl ?_;ext;exact q _ _ (pj.ap H) (.inr ⟨rfl,rfl⟩)
 |some (w,l),none,⟨U,G,I,_,_,y,X⟩,e,a,q=>
  cases(show M= .d from e)
  subst I;show pL rfl ?_;show pK rfl ?_
  first|refine pK rfl ?_ |skip
  show pK rfl ?_;ext;exact q _ _ (pj.ap H) (.inl ⟨rfl,rfl⟩)
 |some (w,l),ae (x,m),⟨U,G,I,_,_,y,X⟩,⟨S,z,B,_,_,j,c⟩,a,q=>
  subst I B;have i:=a w l x m rfl rfl;have q:∀v g,pj H g->((v= .b U/\(if w=x then(if l<m then ae (w,l)else ae (x,m))else if w>x then ae (w,l)else ae (x,m))=ae (w,l))\/(v= .b S/\(if w=x then(if l<m then ae (w,l)else ae (x,m))else if w>x then ae (w,l)else ae (x,m))=ae (x,m)))->Q v g:=q;show pL rfl ?_;show pL rfl ?_
  first|refine pL rfl ?_ |skip
  show BJ (pX.J y) (v:= .a w) rfl ?_;show BJ (pX.J j) (v:= .a x) rfl ?_;show qu (λJ=>?_) (λJ=>?_)
  .show BJ (pX.J y) (v:= .b G) rfl ?_;show BJ (pX.J j) (v:= .b z) rfl ?_;refine⟨G,z,l,m,rfl,rfl,pq.J X,pq.J c,i,?_⟩;ext;rw[aU J]at q;refine qu (λb=>?_) (λb=>?_)
   .ext;exact q _ _ (pj.ap H) (.inl ⟨rfl,aU b⟩)
   .ext;exact q _ _ (pj.ap H) (.inr ⟨rfl,aP b⟩)
  .show BJ (pX.J y) (v:= .a w) rfl ?_;show BJ (pX.J j) (v:= .a x) rfl ?_;ext;rw[aP J]at q;refine qu (λb=>?_) (λb=>?_)
   .ext;exact q _ _ (pj.ap H) (.inl ⟨rfl,aU b⟩)
   .ext;exact q _ _ (pj.ap H) (.inr ⟨rfl,aP b⟩)
def Pw:qp P w K mg base (k+2) "likeliest_pair" ["first","last"] (T6):=pJ.u (T.f.J 27) (pI ["first","last","best","opening","weight"]) λnd H X h=>by
 obtain⟨p1,p2,x,y,s,rfl,Y,h2,lx,ly,hk,Z,sy,q⟩:=h;have hu:=X.J;obtain⟨f,M⟩:∃f:Nat->Int,f=λb=>x.getD b 0:=⟨_,rfl⟩;obtain⟨g,o⟩:∃g:Nat->Int,g=λb=>y.getD b 0:=⟨_,rfl⟩;have lo:=GL (f:=f) (g:=g) (by rw[M];exact Z.J) (by rw[o];exact sy.J);rw[<-M,<-o]at q;refine⟨_,(AD (AO 2 Ar) (AD (BL oQ rfl (B6 rfl (T.N 11) (pF AC (Al K (T.N 7) (pe l')) AC)) (Ah 3) (AD (AO 4 (AI Be (AH K l' nc) (AH K ma (AI AM nc AC)))) (AE (AV (AS Cf nt AC) (AE (AO 2 (AN (Jl T) X (pk mm (Az (pk nt (Ad (pk nc (AI AM nc AC))))))))) AW)))) (AE (AJ mm)))),?_⟩;show BN (.inl (pq.J Y)) ?_;rw[az,lx];show⟨0,_,2,rfl,⟨by decide,by decide,CT oZ oZ oZ oZ⟩,?_⟩;have er:rN 0 ((2*s:Nat):Int) 2=s:=by rw[Ca];lia
 rw[er];refine CU (λt n H'=>∃ (v:V) (Q R:Option V),n=[ae (.b p1),ae (.b p2),ae v,Q,R]/\pj H H'/\Bt (λb=>H b=none) H' v (lp f g t)) ⟨.d,_,_,rfl,pj.ap H,rfl⟩ ?_ ?_
 rotate_left
 .intro n i S;obtain⟨v,Q,R,rfl,d,j⟩:=S;ext;exact q v i d j
 intro t n i ht S;obtain⟨v,Q,R,rfl,d,j⟩:=S;have e0:(0:Int)+(t:Int)*2=((2*t:Nat):Int):=by lia
 have E:((2*t:Nat):Int)+1=((2*t+1:Nat):Int):=by lia
 rw[e0];ext;have gx:x[2*t]? =ae (x.getD (2*t) 0):=by rw[ag,al oZ];rfl
 have gy:y[2*t+1]? =ae (y.getD (2*t+1) 0):=by rw[ag,al oZ];rfl
 refine AK (pq.J (d _ _ Y)) (AU (by rw[ao,gx];rfl)) ?_;ext
 first|rw[E]|skip
 refine AK (pq.J (d _ _ h2)) (AU (by rw[ao,gy];rfl)) ?_;have O:=Z.J (2*t);have B:=sy.J (2*t+1);refine Bl (BH O.1 O.2 DT) (BH B.1 B.2 DT) ?_;have G:lp f g (t+1)=if 0<x.getD (2*t) 0*y.getD (2*t+1) 0 then uV (lp f g t) (ae (x.getD (2*t) 0*y.getD (2*t+1) 0,[2*t,2*t+1]))else lp f g t:=by subst M o;rfl
 generalize x.getD (2*t) 0*y.getD (2*t+1) 0=c at G⊢;show qu (λI=>?_) (λI=>?_)
 .have I:0<c:=I;rw[aU I]at G;ext;rw[E];refine⟨small (n:=2) oY,λa C=>?_⟩;have r:=AL C (.a [.a ((2*t:Nat):Int), .a ((2*t+1:Nat):Int)]);have k1:(upd i a (.a [.a ((2*t:Nat):Int), .a ((2*t+1:Nat):Int)])) a=_:=AF;generalize upd i a _=H2 at*
  show⟨small (n:=2) oY,λT D=>?_⟩;have p:=AL D (.b [.a c, .b a]);have A:(upd H2 T (.b [.a c, .b a])) T=_:=AF;have J:=p _ _ k1;have U:=r.J p;have fT:i T=none:=r.Z D;generalize upd H2 T _=H3 at*
  show⟨v, .b T,lp f g t,ae (c,[2*t,2*t+1]),rfl,(j.Z U).ap (λ_ _ _ _=>trivial),⟨T,a,rfl,trivial,trivial,A,J⟩,?_,λv' H4 L hv=>?_⟩
  .intro w l x' m e z
   cases z
   exact(lo t oZ w l e).1
  show⟨v',_,_,rfl,(d.J U).J L,?_⟩;rw[G];rcases hv with⟨rfl,e⟩|⟨rfl,e⟩
  .rw[e];exact j.Z (U.J L)
  .rw[e];exact⟨T,a,rfl,d.Z fT,d.Z C,L _ _ A,L _ _ J⟩
 .ext;rw[aP I]at G;exact⟨v,_,_,rfl,d,G▸j⟩
def QA:qp P w K mg base (k+1) "round_about" ["pair","within"] (vM):=pJ.u (T.f.J 28) (pI ["pair","within","opening","closing"]) λnd H hr h=>by
 obtain⟨E,D,O,p,rfl,G,z,d,c,a,q⟩:=h;have hu:=hr.J;refine⟨_,(AD (AV (PW.J (BX (AS Bm l' Ar) (Ba (AS Bm ma Ar)))) (AE (AJ Ar)) AW) (AD (Bc (AH K l' AC) (Mj (n:=2) K rfl (Ao (Ah 2) (Ao (Ah 3) Bh)))) (AE (AJ (Az (pk (AI Be (AH K l' AC) (AH K ma AC)) (AI AM (AI AM (Ad (pe mm)) (AH K ma AC)) (Ad (pe nc))))))))),?_⟩
 match O,p,G,z,d,c,a,q with
 |none,p,G,z,d,c,a,q=>
  cases(show E= .d from G)
  show pK rfl ?_
  first|refine pK rfl ?_ |skip
  ext;exact q _ _ (pj.ap H) rfl
 |some (w,l),none,⟨T1,I,J,_,_,L,Z⟩,z,d,c,a,q=>
  cases(show D= .d from z)
  subst J;show pL rfl ?_;show pK rfl ?_
  first|refine pK rfl ?_ |skip
  ext;exact q _ _ (pj.ap H) rfl
 |some (w,l),ae (x,m),⟨T1,I,J,_,_,L,Z⟩,⟨T2,a2,e2,_,_,s,g2⟩,d,c,a,q=>
  subst J e2;obtain⟨b1,l1⟩:=c w l rfl;obtain⟨b2,l2⟩:=a x m rfl;obtain⟨b,e,rfl⟩:∃b e,l=[b,e]:=by
   match l,d w l rfl with
   |[b,e],_=>exact⟨b,e,rfl⟩
  show pL rfl ?_;show pL rfl ?_
  first|refine pL rfl ?_ |skip
  show BJ (pX.J L) (v:= .b I) rfl ?_;refine⟨I,[.a (b:Int), .a (e:Int)],rfl,pq.J Z,rfl,?_⟩;show BJ (pX.J L) (v:= .a w) rfl ?_;show BJ (pX.J s) (v:= .a x) rfl ?_;refine Bl b1 b2 ?_;show⟨small (n:=1) oY,λM Q=>?_⟩;have B:=AL Q (.a [.a (b:Int)]);have k1:(upd H M (.a [.a (b:Int)])) M=_:=AF;generalize upd H M _=C at*
  show BJ (pX.J (B _ _ s)) (v:= .b a2) rfl ?_;refine Em k1 (B _ _ g2) (small (by rw[az];simp;lia)) (λR S=>?_);have o:=AL S (.a ([.a (b:Int)]++nL m));have k2:(upd C R (.a ([.a (b:Int)]++nL m))) R=_:=AF;generalize upd C R _=A at*
  show⟨small (n:=1) oY,λU X=>?_⟩;have Y:=AL X (.a [.a (e:Int)]);have k3:(upd A U (.a [.a (e:Int)])) U=_:=AF;generalize upd A U _=t at*
  refine Em (Y _ _ k2) k3 (small (by simp;lia)) (λi j=>?_);have N:=AL j (.a (([.a (b:Int)]++nL m)++[.a (e:Int)]));have V:(upd t i (.a (([.a (b:Int)]++nL m)++[.a (e:Int)]))) i=_:=AF;generalize upd t i _=H4 at*
  ext;have y:=(B.J o).J (Y.J N);refine⟨small (n:=2) oY,λT r=>?_⟩;have g:=AL r (.b [.a (w*x), .b i]);refine q _ _ (y.J g) ⟨T,i,rfl,y.Z r,((B.J o).J Y).Z j,AF,?_⟩;rw[g _ _ V];show ae (HO.a _)=ae (HO.a (nL ([b]++m++[e])));simp[nL]
def Pj:qp P w K mg base (k+1) "one_behind_the_other" ["first","second"] (uL):=pJ.u (T.f.J 29) (pI ["first","second"]) λr H L h=>by
 obtain⟨M,Q,o,n,rfl,d,b,g,a,q⟩:=h;have Z:=L.J;refine⟨_,(AD (AV (PW.J (BX (AS Bm l' Ar) (Ba (AS Bm ma Ar)))) (AE (AJ Ar)) AW) (AE (AJ (Az (pk (AI Be (AH K l' AC) (AH K ma AC)) (AI AM (AH K l' AC) (AH K ma AC))))))),?_⟩
 match o,n,d,b,g,a,q with
 |none,n,d,b,g,a,q=>
  cases(show M= .d from d)
  show pK rfl ?_
  first|refine pK rfl ?_ |skip
  ext;exact q _ _ (pj.ap H) rfl
 |some (w,l),none,⟨R,j,e,_,_,i,y⟩,b,g,a,q=>
  cases(show Q= .d from b)
  subst e;show pL rfl ?_;show pK rfl ?_
  first|refine pK rfl ?_ |skip
  ext;exact q _ _ (pj.ap H) rfl
 |some (w,l),ae (x,m),⟨R,j,e,_,_,i,y⟩,⟨A,S,U,_,_,z,p⟩,g,a,q=>
  subst e U;obtain⟨X,t⟩:=g w l rfl;obtain⟨Y,s⟩:=a x m rfl;show pL rfl ?_;show pL rfl ?_
  first|refine pL rfl ?_ |skip
  show BJ (pX.J i) (v:= .a w) rfl ?_;show BJ (pX.J z) (v:= .a x) rfl ?_;refine Bl X Y ?_;show BJ (pX.J i) (v:= .b j) rfl ?_;show BJ (pX.J z) (v:= .b S) rfl ?_;refine Em y p (small (by rw[az,az];lia)) (λc B=>?_);have G:=AL B (.a (nL l++nL m));show⟨small (n:=2) oY,λT I=>?_⟩;have J:=AL I (.b [.a (w*x), .b c]);refine q _ _ (G.J J) ⟨T,c,rfl,G.Z I,B,AF,?_⟩;rw[J _ _ AF,<-b0]
def Pq:qp P w K mg base (k+3) "likeliest_spans" ["places"] (LK):=pJ.u (T.f.J 30) (pI ["places","many","best","start","end","part","stop","found"]) @λ_ _ _ _ s _ _ _ nd H hr h=>by
 obtain⟨p,ps,S,rfl,hP,hn,hk,hl,q⟩:=h;have hu:=hr.J;have f0:∀l∈ps,Sm l:=λl z=>(hl l z).2;have b3:=CY f0;obtain⟨pa,b8,f2⟩:=id hP;refine⟨_,(AD (Cu (i:=1) nd rfl (Or.inr rfl) (Al K (T.N 7) (pe l'))) (AD (Gf (i:=2) nd rfl (lY rfl) (own:=["start"]) (sel:=[1]) (A9 (osc:=(AX (top 56))) (N:=["places","many","best","start","end","part","stop","found"]) bg) rfl (CI rfl (T.N 11) (pe (AI AM ma AC))) (λ_ _ _ _ _=>(Am (i:=0) (show(["start","many"]:hE).Nodup from by decide +kernel) rfl (lY rfl))) (Av oY) (λ_ _ _ _ _=>BC) (λ_ _ _ _ _=>(AI Bg (Ad (pe Ar)) (AI AM ma AC)))) (AD (BL oQ rfl (B6 rfl (T.N 11) (pF ma (Bo Bi AC) (Bo Bi AC))) (Ah 3) (AD (Bc (Az (pk AC (Ad AB))) (Cc (AH K mm nc) nc Bf)) (AE (BL oQ rfl (B6 rfl (T.N 11) (pF (AI AM nc AC) ma AC)) (Ah 4) (AD (AO 5 (AN (QA T) hr (pk (AN (Pw T) hr (pk (AH K l' nc) (AH K l' nt))) (AH K (AH K mm (AI AM nc AC)) nt)))) (AE (BL oQ rfl (B6 rfl (T.N 11) (pF (AI AM nt AC) (AI AM ma AC) AC)) (Ah 6) (AD (AO 7 (AN (Pj T) hr (pk nS (AH K (AH K mm (AI AM nt AC)) ov)))) (AE (Bc (AN (Jl T) hr (pk (AH K (AH K mm nc) ov) oD)) (Cc (AH K mm nc) ov Bf))))))))))) (AE (AJ mm))))),?_⟩;show BN (.inl (pq.J b8)) ?_;have en:((((aH ps.length).map λi=>V.b (pa i)).length:Nat):Int)=(ps.length:Int):=by rw[az,dt]
 rw[en];generalize hN:ps.length=n at*
 show⟨_,rfl,by lia,by lia,?_⟩;have en:((n:Int)+1).toNat=n+1:=by lia
 rw[en];refine Hg (small oZ) (λD i ys L=>∃Q:Nat->Addr,ys=(aH i).map (λj=>V.b (Q j))/\(∀j,j<i->L (Q j)=ae (.a (tR n λ_=> .d))/\H (Q j)=none/\Q j≠D)/\∀j j',j<i->j'<i->Q j=Q j'->j=j')
  (λD _=>⟨λ_=>D,rfl,λj C=>absurd C oZ,λj _ C=>absurd C oZ⟩) (λD i ys Y H2 _ ⟨Q,e,A,h2⟩ d9=>⟨Q,e,λj C=>⟨d9 _ _ (A j C).1 (A j C).2.2,(A j C).2⟩,h2⟩)
  (λs' ys Y hD hy _ sH ⟨Q,e,A,h2⟩=>?_) ?_
 rotate_left
 .rintro D i ys L R hD hi hy hl sH ⟨Q,e,A,h2⟩ r;show⟨small (n:=1) oY,λz hz=>?_⟩;show E4 (xs:=[.d]) AF oZ oZ (small (by rw[hH,en];lia)) (λp hp=>?_);have f1:p≠z:=λw=>by rw[w,AF]at hp;cases hp
  have a7:L p=none:=by rw[AG f1]at hp;exact hp
  have f3:p≠D:=λw=>by rw[w,hy]at a7;cases a7
  have J:pj L (upd (upd L z (.a [.d])) p (.a (List.replicate ((n:Int)+1).toNat [V.d]).flatten)):=(AL hz _).J (AL hp _);refine r _ _ J ⟨λj=>if j=i then p else Q j,?_,?_,?_⟩
  .subst e;rw[List.range_succ,b0];congr 1
   .refine List.map_congr_left λj C=>?_;have:=List.mem_range.mp C;show V.b (Q j)=V.b (if j=i then p else Q j);rw[aP oZ]
   .simp
  .intro j C
   by_cases ej:j=i
   .subst ej;simp only[if_true];refine⟨?_,?_,f3⟩
    .rw[AF,en];congr 2;unfold tR;have:∀m:Nat,(List.replicate m [V.d]).flatten=(aH m).map λ_=>V.d:=by
      intro m
      induction m with
      |zero=>rfl
      |succ m ih=>rw[List.replicate_succ',List.flatten_append,ih,List.range_succ,b0];rfl
     exact this (n+1)
    .exact sH.Z a7
   .simp only[aP ej];obtain⟨a1,a2,a3⟩:=A j oZ;exact⟨J _ _ a1,a2,a3⟩
  .intro j j' C g2 he
   by_cases ej:j=i<;>by_cases c1:j'=i
   .lia
   .simp only[aU ej,aP c1]at he;have:=(A j' oZ).1;rw[<-he,a7]at this;cases this
   .simp only[aP ej,aU c1]at he;have:=(A j oZ).1;rw[he,a7]at this;cases this
   .simp only[aP ej,aP c1]at he;exact h2 j j' oZ oZ he
 subst e;have d8:Tv H Y Y s' Q n (λ_ _=> .d):=⟨hD,λi hi=>(A i oZ).2.1,λi hi=>(A i oZ).2.2,λi j hi C=>h2 i j oZ oZ,λi hi=>by rw[(A i oZ).1];simp,hy,λi hi=>(A i oZ).1,sH,λb z=>z⟩;clear A h2 hy hD;show⟨n,-1,-1,rfl,⟨by decide,by decide,J2 (.inl rfl) oZ oZ oY oY⟩,?_⟩;have er:rN (n:Int) (-1) (-1)=n+1:=by rw[Md];lia
 rw[er];have a5:∀ {L:Hp} {i:Nat},pj H L->i<n->∃l,L (pa i)=ae (iL l)/\l.length=2*S/\Sm l/\∀b,PP ps i b=l.getD b 0:=by
  intro L i sH hi;have e:ps[i]? =ae ps[i]:=al oZ;have eg:ps.getD i []=ps[i]:=by rw[ag,e];rfl
  refine⟨ps[i],?_,(hl _ (d2 _)).1,(hl _ (d2 _)).2,λb=>by show(ps.getD i []).getD b 0=_;rw[eg]⟩;have:=sH _ _ (f2 i oZ);rw[eg]at this;exact this
 have d0:∀ {i:Nat},i<n->((aH n).map λi=>V.b (pa i))[i]? =ae (.b (pa i)):=fun{i} hi=>by rw[ao,bb hi];rfl
 obtain⟨Vm,U⟩:∃Vm:Hp->(Nat->Nat->V)->(Nat->Nat->O)->Prop,Vm=λL T M=>∀i j,Bt (λb=>Y b=none) L (T i j) (M i j):=⟨_,rfl⟩;have a8:∀ {G G':Hp} {T:Nat->Nat->V} {M:Nat->Nat->O},Vm G T M->pj G G'->Vm G' T M:=by
  subst U;exact λh s i j=>(h i j).Z s
 refine CU (λt E L=>∃ (T:Nat->Nat->V) (o3 o4 o5 o6 o7:Option V),E=[ae (.b p),ae (.a n),ae (.b s'),o3,o4,o5,o6,o7]/\Tv H Y L s' Q n T/\Vm L T (ls (PP ps) S n t)) ⟨_,_,_,_,_,_,rfl,d8,by rw[U];exact λ_ _=>rfl⟩ ?_ ?_
 rotate_left
 .intro E L z_;obtain⟨T,o3,o4,o5,o6,o7,rfl,tb,vm⟩:=z_;ext;rw[U]at vm;refine q s' (Q 0) ((aH n).map λi=>V.b (Q (i+1))) ((aH n).map (T 0)) (T 0 n) L tb.f ?_ ?_ ((vm 0 n).ap λ_ _ _ _=>trivial)
  .rw[tb.a,List.range_succ_eq_map,List.map_cons,dC];rfl
  .rw[tb.c 0 (Nat.zero_le _)];unfold tR;rw[List.range_succ,b0];rfl
 intro t E H2 ht z_;obtain⟨T,o3,o4,o5,o6,o7,rfl,b2,c5⟩:=z_;obtain⟨B,g3⟩:∃B:Nat,B+t=n:=⟨n-t,by lia⟩;have e1:((n:Int)+(t:Int)* -1)=(B:Int):=by lia
 have eM:ls (PP ps) S n (t+1)=lq (PP ps) S n B (Dl B (ls (PP ps) S n t)) ((n-B)/2):=by rw[ls,show n-t=B by lia]
 have e8:=Mv (s:=B) (Ip (n:=n) b3 hk t);rw[e1];show⟨small (n:=0) oY,λz hz=>?_⟩;have t3:=AL hz (.a []);have k3:(upd H2 z (.a [])) z=_:=AF;generalize upd H2 z _=H3 at*
 show⟨small (n:=2) oY,λT1 b9=>?_⟩;have t4:=AL b9 (.b [.a 1, .b z]);have k4:(upd H3 T1 (.b [.a 1, .b z])) T1=_:=AF;have d6:=t4 _ _ k3;have fz:Y z=none:=b2.g z hz;have c0:Y T1=none:=b2.g T1 (t3.Z b9);have tb4:=b2.J (t3.J t4);have b1:=a8 c5 (t3.J t4);generalize upd H3 T1 _=H4 at*
 show AK (pq.J tb4.a) (AU (tb4.at (i:=B) oZ)) ?_;show Bj (tb4.c B oZ) (j:=B) (by rw[MZ];unfold qW;rw[aU oZ,aU oZ];simp) ?_;have c7:=tb4.ld (i:=B) (j:=B) (v:= .b T1) oZ;have a6:=λb x f z=>tb4.Z (i:=B) oZ (o:= .a ((tR n (T B)).set B (.b T1))) b x f z;have c4:Vm (upd H4 (Q B) (.a ((tR n (T B)).set B (.b T1)))) (λa b=>if a=B then(if b=B then .b T1 else T a b)else T a b) (Dl B (ls (PP ps) S n t)):=by
  rw[U]at b1⊢;intro i j;unfold Dl
  dsimp only
  split
  .split
   .exact⟨T1,z,rfl,c0,fz,a6 _ _ c0 k4,a6 _ _ fz d6⟩
   .exact(b1 i j).J a6
  .exact(b1 i j).J a6
 generalize(λa b=>if a=B then(if b=B then V.b T1 else T a b)else T a b)=T5 at*
 generalize upd H4 (Q B) _=H5 at*
 generalize Dl B (ls (PP ps) S n t)=M0 at*
 clear tb4 b1 a6 k4 d6 fz c0 b2 c5 t3 t4 k3 hz b9;show⟨_,_,2,rfl,⟨by decide,by decide,CT oZ oZ oZ oZ⟩,?_⟩;have f6:rN ((B:Int)+1) n 2=(n-B)/2:=by rw[Ca];lia
 rw[f6];refine CU (λq' E L=>∃ (T:Nat->Nat->V) (o4 o5 o6 o7:Option V),E=[ae (.b p),ae (.a n),ae (.b s'),ae (.a B),o4,o5,o6,o7]/\Tv H Y L s' Q n T/\Vm L T (lq (PP ps) S n B M0 q')) ⟨T5,_,_,_,_,rfl,c7,c4⟩ ?_ ?_
 rotate_left
 .intro E L z_;obtain⟨T,o4,o5,o6,o7,rfl,tb,vm⟩:=z_;ext;exact⟨T,_,_,_,_,_,rfl,tb,eM▸vm⟩
 clear c7 c4;intro q' E H6 g1 z_;obtain⟨T,o4,o5,o6,o7,rfl,tb6,c3⟩:=z_;obtain⟨d,f4⟩:∃e:Nat,e=B+1+2*q':=⟨_,rfl⟩;have e2:((B:Int)+1+(q':Int)*2)=(d:Int):=by lia
 have f9:d<n:=by lia
 have d4:=Iq (s:=B) (n:=n) b3 hk e8 q';have eQ:lq (PP ps) S n B M0 (q'+1)=sN B d (vS (lp (PP ps B) (PP ps d) S) (lq (PP ps) S n B M0 q' (B+1) d)) (lq (PP ps) S n B M0 q') ((n+1-d)/2):=by rw[lq,f4]
 generalize lq (PP ps) S n B M0 q'=M at*
 rw[e2];ext;obtain⟨x,hx,lx,sx,ex⟩:=a5 tb6.f (show B<n by lia);obtain⟨y,hy,ly,sy,ey⟩:=a5 tb6.f (show d<n by lia);refine AK (pq.J (tb6.f _ _ b8)) (AU (d0 (i:=B) oZ)) ?_;show AK (pq.J (tb6.f _ _ b8)) (AU (d0 (i:=d) oZ)) ?_;show⟨pa B,pa d,x,y,S,rfl,hx,hy,lx,ly,hk,sx,sy,λvp H7 s7 bp=>?_⟩;rw[show(λb=>x.getD b 0)=PP ps B from funext λb=>(ex b).symm,show(λb=>y.getD b 0)=PP ps d from funext λb=>(ey b).symm]at bp;have b7:=GL (b3 B) (b3 d) S hk;have tb7:=tb6.J s7;have a9:=a8 c3 s7;have e3:((B:Int)+1)=((B+1:Nat):Int):=by lia
 ext;rw[e3];refine AK (pq.J tb7.a) (AU (tb7.at (i:=B+1) oZ)) ?_;show AK (pq.J (tb7.c (B+1) oZ)) (AU (Ht (j:=d) oZ)) ?_;have d3:=d4 (B+1) d oZ;show⟨vp,T (B+1) d,lp (PP ps B) (PP ps d) S,M (B+1) d,rfl,bp.ap (λ_ _ _ _=>trivial),(by rw[U]at a9;exact a9 _ _:Bt _ _ _ _).ap (λ_ _ _ _=>trivial),λw l e=>(b7 w l e).1,b7.Z oY,d3.Z oZ,λvr H8 s8 br=>?_⟩;have br:Bt (λb=>Y b=none) H8 vr (vS (lp (PP ps B) (PP ps d) S) (M (B+1) d)):=br.ap λb x f _=>tb7.g b f;have b6:=b7.mp d3 (show d+1-B=2+(d-(B+1)) by lia);have e7:=IV (s:=B) (e:=d) oZ b6 d4;generalize vS (lp (PP ps B) (PP ps d) S) (M (B+1) d)=c at*
 have c6:=tb7.J s8;have c2:=a8 a9 s8;clear tb6 tb7 c3 a9 hx hy bp s7 s8;show⟨_,_,2,rfl,⟨by decide,by decide,CT oZ oZ oZ oZ⟩,?_⟩;have f5:rN ((d:Int)+1) ((n:Int)+1) 2=(n+1-d)/2:=by rw[Ca];lia
 rw[f5];refine CU (λr E L=>∃ (T:Nat->Nat->V) (o6 o7:Option V),E=[ae (.b p),ae (.a n),ae (.b s'),ae (.a B),ae (.a d),ae vr,o6,o7]/\Tv H Y L s' Q n T/\Vm L T (sN B d c M r)/\Bt (λb=>Y b=none) L vr c) ⟨T,_,_,rfl,c6,c2,br⟩ ?_ ?_
 rotate_left
 .intro E L z_;obtain⟨T,o6,o7,rfl,tb,vm,_⟩:=z_;ext;exact⟨T,_,_,_,_,rfl,tb,eQ▸vm⟩
 clear c6 c2 br;intro r E H9 g0 z_;obtain⟨T,o6,o7,rfl,tb9,a0,d7⟩:=z_;obtain⟨J,e9⟩:∃e:Nat,e=d+1+2*r:=⟨_,rfl⟩;have e4:((d:Int)+1+(r:Int)*2)=(J:Int):=by lia
 have b4:J<=n:=by lia
 rw[e4];have e5:((d:Int)+1)=((d+1:Nat):Int):=by lia
 have d5:=e7 r;have eI:sN B d c M (r+1)=λa b=>if a=B then(if b=J then uV (sN B d c M r B J) (tV c (sN B d c M r (d+1) J))else sN B d c M r a b)else sN B d c M r a b:=by subst e9;rfl
 generalize sN B d c M r=I at*
 have bc:Bt (λb=>Y b=none) H9 (T (d+1) J) (I (d+1) J):=by rw[U]at a0;exact a0 _ _
 have bd:Bt (λb=>Y b=none) H9 (T B J) (I B J):=by rw[U]at a0;exact a0 _ _
 have d1:=d5 (d+1) J oZ;have e6:=d5 B J oZ;have e0:=b6.ld d1 (show J-B=d+1-B+(J-(d+1)) by lia);ext;rw[e5];refine AK (pq.J tb9.a) (AU (tb9.at (i:=d+1) oZ)) ?_;show AK (pq.J (tb9.c (d+1) oZ)) (AU (Ht (j:=J) b4)) ?_;show⟨vr,T (d+1) J,c,I (d+1) J,rfl,d7.ap (λ_ _ _ _=>trivial),bc.ap (λ_ _ _ _=>trivial),b6.Z oZ,d1.Z oZ,λvf f8 b5 bf=>?_⟩;have bf:Bt (λb=>Y b=none) f8 vf (tV c (I (d+1) J)):=bf.ap λb x f _=>tb9.g b f;have tb10:=tb9.J b5;show AK (pq.J tb10.a) (AU (tb10.at (i:=B) oZ)) ?_;show AK (pq.J (tb10.c B oZ)) (AU (Ht (j:=J) b4)) ?_;show⟨T B J,vf,I B J,tV c (I (d+1) J),rfl,(bd.Z b5).ap (λ_ _ _ _=>trivial),bf.ap (λ_ _ _ _=>trivial),λw l x' m a b=>(e6 w l a).1.trans (e0 x' m b).1.symm,λvn f7 c9 hv=>?_⟩;have Z:=b5.J c9;have X:=tb9.J Z;have bn:Bt (λb=>Y b=none) f7 vn (uV (I B J) (tV c (I (d+1) J))):=by
  rcases hv with⟨rfl,e⟩|⟨rfl,e⟩
  .rw[e];exact bd.Z Z
  .rw[e];exact bf.Z c9
 show AK (pq.J X.a) (AU (X.at (i:=B) oZ)) ?_;show Bj (X.c B oZ) (j:=J) (by rw[MZ];unfold qW;rw[aU oZ,aU oZ];simp) ?_;have c8:=X.ld (i:=B) (j:=J) (v:=vn) oZ;have g:=λb x f z=>X.Z (i:=B) oZ (o:= .a ((tR n (T B)).set J vn)) b x f z;show⟨_,_,_,rfl,c8,?_,(d7.Z Z).J g⟩;have a4:=a8 a0 Z;rw[eI];rw[U]at a4⊢;intro i j
 dsimp only
 split
 .split
  .exact bn.J g
  .exact(a4 i j).J g
 .exact(a4 i j).J g
def Pt:qp P w K mg base (k+4) "first_likeliest" ["places"] (T9):=pJ.u (T.f.J 31) (pI ["places","best"]) λnd _ B h=>by
 obtain⟨p,ps,Z,rfl,hP,m,hk,G,q⟩:=h;have hu:=B.J;refine⟨_,(AD (AO 1 (AH K (AH K (AN (Pq T) B (pe l')) AC) (Bo Bi AC))) (AD (AV (AS Bm ma Ar) (AE (AJ Ar)) AW) (AE (AJ (Az (pk (AH K ma AC) (Ax K oO oW oV (Dt K) (pC []) (pe (BE (own:=["bracket"]) (sel:=[]) (A9 (osc:=(AX (top 57))) (N:=["places","best"]) bg) rfl (C9 K (AH K ma AC)) (λ_ _ _ _ _=>(Am (i:=0) (show(["bracket"]:hE).Nodup from by decide +kernel) rfl (lY rfl))) (Av oY) (λ_ _ _ _ _=>BC) (λ_ _ _ _ _=>(AH K (Ac (T.g.J 3)) l'))))))))))),?_⟩;ext;have a:=Nv hk G;refine RO hP m hk G (λs' r rs c v H1 H O E d=>?_);generalize wY (PP ps) Z ps.length=o at*
 show AK (pq.J O) (v:= .b r) (Dh _ _) ?_;show AK (pq.J E) (Ul c v) ?_
 match o,d,a,q with
 |none,d,a,q=>
  cases(show v= .d from d)
  show pK rfl ?_;ext;exact q _ H1 H rfl
 |some (w,l),⟨T1,I,C,_,_,J,L⟩,a,q=>
  subst C;obtain⟨n,j,_⟩:=a w l rfl;have M:l.length<=40:=by lia
  show pL rfl ?_;show BJ (pX.J J) (v:= .a w) rfl ?_;show BJ (pX.J J) (v:= .b I) rfl ?_;show⟨I,rfl,⟨_,pq.J L⟩,?_⟩;refine U1 (λx=>match x with| .a i=>tx [pN.getD i.toNat 0]|y=>y) (small (by rw[az];lia)) L (λD Q hD S U=>?_) (λD i x Q R hD X S A=>?_)
  .have e:((nL l).map λx=>match x with| .a i=>tx [pN.getD i.toNat 0]|y=>y)=(l.map λb=>[pN.getD b 0]).map tx:=by
    unfold nL;rw[dC,dC]
    rfl
   rw[e]at U;ext;have Y:(l.map λb=>[pN.getD b 0]).flatten=rS l:=by
    unfold rS;rw[<-Eb (l.map λb=>pN.getD b 0),dC];rfl
   refine Dv (xss:=l.map λb=>[pN.getD b 0]) (pq.J U) (by rw[Y,az];unfold rS;rw[az];lia) ?_;rw[Y];show⟨small (n:=2) oY,λV t=>?_⟩;exact q _ _ ((H.J S).J (AL t _)) ⟨V,rfl,AF⟩
  .rw[ao]at X;obtain⟨b,s,rfl⟩:=dj.mp X;have z:=j b (cE s);show BS (small oY) (AU (Fy z)) ?_;exact A Q (pj.ap _)
def JU:qp P w K mg base (k+1) "needs_change" ["sign","bracket"] (vN):=pJ.u (T.f.J 32) (pI ["sign","bracket"]) λa _ d h=>by
 obtain⟨c,b,rfl,q⟩:=h;have x:=d.J;refine⟨_,(AE (AJ (BP (FS K) l' (Az (pk (Ac (T.g.J 4)) ma)) dp))),?_⟩;show⟨small (n:=2) oY,λe i=>?_⟩;have j:=AL i (.b [tx [63],tx [b]]);refine .inr ⟨e,_,rfl, .inr (pX.J AF),rfl,rfl,?_⟩;rw[ZO];exact q _ j
def Pm:qp P w K mg base (k+2) "places_to_change" ["k","row"] (uF):=pJ.u (T.f.J 33) (pI ["k","row"]) λnd _ X h=>by
 obtain⟨B,a,rfl,k1,k4,ha,q⟩:=h;have hu:=X.J;refine⟨_,(AE (AJ (BE (own:=["sign"]) (sel:=[0]) (A9 (osc:=(AX (top 62))) (N:=["k","row"]) bg) rfl (Cb ma) (λ_ _ _ _ _=>(Am (i:=0) (show(["sign","k"]:hE).Nodup from by decide +kernel) rfl (Or.inr rfl))) (Av oY) (λ_ _ _ _ _=>BC) (λ_ _ _ _ _=>(BE (own:=["bracket"]) (sel:=[0]) (K2 (osc:=(AX (top 62))) (N:=["sign","k"]) rfl rfl bg) rfl (Cb (A1 (A7 K) (Ac (T.g.J 3)) A4 (A3 (AI Bg AC ma)))) (λ_ _ _ _ _=>(Am (i:=0) (show(["bracket","sign"]:hE).Nodup from by decide +kernel) rfl (lY rfl))) (Av oY) (λ_ _ _ _ _=>BC) (λ_ _ _ _ _=>(BR (BD K (AN (JU T) X (pk ma l'))) (Ac (T.g.J 7)) (Ac (T.g.J 6))))))))),?_⟩;show Hf (small oZ) (λD i I G=>∃d:Nat->Addr,I=(aH i).map (λj=>V.b (d j))/\∀j,j<i->G (d j)=ae (iL (uU B.toNat (a.getD j 0)))/\d j≠D)
  (λD _=>⟨λ_=>D,rfl,λj x=>absurd x oZ⟩) (λD i I H1 L _ ⟨d,e,y⟩ M=>⟨d,e,λj x=>⟨M _ _ (y j x).1 (y j x).2,(y j x).2⟩⟩)
  (λD I G Y Q _ Z ⟨d,e,y⟩=>?_) ?_
 .subst e;refine q D G Y Z ⟨d,by rw[az];exact Q,λi m=>?_⟩;rw[az]at m;have eg:(a.map (uU B.toNat)).getD i []=uU B.toNat (a.getD i 0):=by
   simp only[ag,ao,al m];rfl
  rw[eg];exact(y i m).1
 .rintro D i I G R Y m Q hl Z ⟨d,e,y⟩ r;have o:∀l n,G l=none->pj G n->n l=ae (iL (uU B.toNat (a.getD i 0)))->R (.b l) n:=by
   intro l n H p E;have S:l≠D:=λz=>by rw[z,Q]at H;cases H
   refine r _ _ p ⟨λj=>if j=i then l else d j,?_,λj x=>?_⟩
   .subst e;rw[List.range_succ,b0];congr 1
    .refine List.map_congr_left λj x=>?_;have:=List.mem_range.mp x;show V.b (d j)=V.b (if j=i then l else d j);rw[aP oZ]
    .simp
   .by_cases v:j=i
    .subst v;simp only[if_true];exact⟨E,S⟩
    .simp only[aP v];obtain⟨a1,a2⟩:=y j oZ;exact⟨p _ _ a1,a2⟩
  ext;rw[Bn _ oZ,show(2*B).toNat=2*B.toNat by lia];show LB (λb=> .a (if a.getD i 0=63\/a.getD i 0=b then 2 else 1)) (small (by rw[cU];exact bw (Nat.min_le_right _ _) oY)) (λD2 L U t O=>?_) (λi2 c L R2 C t J=>?_)
  .refine o D2 L U t ?_;rw[O];unfold uU;show ae (HO.a _)=ae (HO.a (List.map V.a (List.map _ _)));rw[dC]
   rfl
  .show⟨a.getD i 0,c,rfl,λA s=>?_⟩;ext
   by_cases z:a.getD i 0=63\/a.getD i 0=c
   .rw[aU z]at J;refine pL (by rw[be z];rfl) ?_;ext;exact J A s
   .rw[aP z]at J;refine pK (by rw[ba z];rfl) ?_;ext;exact J A s
def JS:Ak P w K mg base (k+5) "fewest_changes" ["k","row"] (Wu):=pJ.J (T.f.J 34) (pI ["k","row","best","right"]) λnd _ x h=>by
 obtain⟨y,a,rfl,p,m,B,q⟩:=h;have hu:=x.J;have L:=Ai B;have j:y.toNat<=4:=by lia
 have U:=Ay x;refine BU ⟨_,(AD (Au (Aa (CG T) x BI (pk l' ma))) (AD (AO 2 (AN (Pt T) x (pe (AN (Pm T) x (pk l' ma))))) (AD (AV (AS Bm mm Ar) (AE (AJ Ar)) AW) (AD (AO 3 (AH K mm AC)) (AE (AJ (Az (pk (Aj (FT K rfl) rfl (T.N 16) PyProof.Rows.boot_sum (pe (BE (own:=["sign","bracket"]) (sel:=[]) (A9 (osc:=(AX (top 63))) (N:=["k","row","best","right"]) bg) rfl (Fm K rfl (T.N 17) (pk ma nc)) (λ_ _ _ _ _=>(B2 (n:=2) K rfl (Ao (Am (i:=0) (show(["sign","bracket"]:hE).Nodup from by decide +kernel) rfl (lY rfl)) (Ao (Am (i:=1) (show(["sign","bracket"]:hE).Nodup from by decide +kernel) rfl (lY rfl)) Bh)))) (F8 (DE B9 (Fq B9 DL) (Av oY) (DE B9 DL (Av oY) F9))) (λ_ _ _ _ _=>BC) (λ_ _ _ _ _=>(BA CV rfl (T.N 5) oP (pe (AN (JU T) x (pk l' ma)))))))) nc)))))))),?_⟩;show .inl (Bs p m B (λH1 X=>?_));show⟨y,a,rfl,p,m,L,λr H2 _ Y Z=>?_⟩;show⟨r,_,y.toNat,rfl,Z,by rw[az];exact L,j,J5 j a,λv H3 u G=>?_⟩;rw[az]at G;have g:=λw l h=>Fn (a:=a) j (w:=w) (l:=l) h;unfold wy at g q;generalize wY (Pc y.toNat a) y.toNat a.length=o at*
 have M:=(X.J Y).J u
 match o,G,g,q with
 |none,G,g,q=>
  cases(show v= .d from G)
  show pK rfl ?_;ext;exact q _ H3 M rfl
 |some (w,l),⟨T1,O,E⟩,g,q=>
  subst O;obtain⟨b,A⟩:=g w l rfl;have H:(rS l).length=a.length:=by unfold rS;rw[az];exact b
  show pL rfl ?_;show BJ (pX.J E) (v:=tx (rS l)) rfl ?_;show MG (λc d=> .a (if c=63\/c=d then 0 else 1)) H (small oZ) (λD H4 hD Q S=>?_) (λi c d I H4 R hc hd Q J C=>?_)
  .have e:((aH a.length).map λi=>V.a (if a.getD i 0=63\/a.getD i 0=(rS l).getD i 0 then 0 else 1))=((aH a.length).map λi=>(if wq (a.getD i 0) (l.getD i 0)=true then(0:Int)else 1)).map V.a:=by
    rw[dC];refine List.map_congr_left λi s=>?_;have s:=List.mem_range.mp s;have eg:(rS l).getD i 0=pN.getD (l.getD i 0) 0:=by
     unfold rS;rw[ag,ao,al oZ,ag (l:=l),al oZ];rfl
    show V.a (if a.getD i 0=63\/a.getD i 0=(rS l).getD i 0 then 0 else 1)=V.a (if wq (a.getD i 0) (l.getD i 0)=true then(0:Int)else 1);rw[eg];unfold wq
    by_cases z:a.getD i 0=63\/a.getD i 0=pN.getD (l.getD i 0) 0
    .rw[aU z,aU (be z)]
    .rw[aP z,aP (by rw[ba z];decide)]
   rw[e]at S;show GF (pq.J S) ?_;rw[NI a l b.symm];show⟨small (n:=2) oY,λI J=>?_⟩;exact q _ _ ((M.J Q).J (AL J _)) ⟨I,rfl,AF⟩
  .show⟨I,_,rfl,pX.J J,rfl,?_⟩;show⟨c,d,rfl,λH5 t=>?_⟩;ext;have eb:(if(!decide (c=63\/c=d))=true then(1:Int)else 0)=if c=63\/c=d then 0 else 1:=by
    by_cases z:c=63\/c=d
    .rw[be z,aU z];rfl
    .rw[ba z,aP z];rfl
   rw[eb];exact C H5 t
def QX:qp P w K mg base (k+1) "other_one" ["sign"] (ui):=pJ.u (T.f.J 35) (pI ["sign"]) λa _ z h=>by
 obtain⟨c,rfl,B,q⟩:=h;have G:=z.J;refine⟨_,(AD (AV (AS (Af K G) l' (Ac (T.g.J 4))) (AE (AJ (Ac (T.g.J 4)))) AW) (AD (AV (AS (Cv K) l' (Ac (T.g.J 0)) dp) (AE (AJ (AH K (Ac (T.g.J 1)) (Ax K oO PySem.F.slot_str_index PySem.F.type_str_index HS (Ac (T.g.J 0)) (pe l'))))) AW) (AE (AJ (AH K (Ac (T.g.J 0)) (Ax K oO PySem.F.slot_str_index PySem.F.type_str_index HS (Ac (T.g.J 1)) (pe l'))))))),?_⟩;ext;have H:=PL B;refine qu (λi=>?_) (λi=>?_)
 .have I:c=63:=by simpa using i
  subst I;ext;exact q
 .show qu (λx=>?_) (λx=>?_)
  .obtain⟨j,o,y,b,d⟩:∃ (j o:Nat),ED [40,91,123,60] c=ae j/\pY [41,93,125,62] (j:Int)=ae o/\o=uN c:=by
    have:c=40\/c=91\/c=123\/c=60:=by simpa using x
    rcases this with rfl|rfl|rfl|rfl
    .exact⟨0,41,by decide +kernel,rfl,rfl⟩
    .exact⟨1,93,by decide +kernel,rfl,rfl⟩
    .exact⟨2,125,by decide +kernel,rfl,rfl⟩
    .exact⟨3,62,by decide +kernel,rfl,rfl⟩
   subst d;show Im y ?_;ext;exact BS (small (n:=4) oY) b q
  .obtain⟨j,o,y,b,d⟩:∃ (j o:Nat),ED [41,93,125,62] c=ae j/\pY [40,91,123,60] (j:Int)=ae o/\o=uN c:=by
    have:c=41\/c=93\/c=125\/c=62:=by
     have J:c≠63:=λe=>i (by rw[e]);have L:¬ (c=40\/c=91\/c=123\/c=60):=λe=>x (by simpa using e);lia
    rcases this with rfl|rfl|rfl|rfl
    .exact⟨0,40,by decide +kernel,rfl,rfl⟩
    .exact⟨1,91,by decide +kernel,rfl,rfl⟩
    .exact⟨2,123,by decide +kernel,rfl,rfl⟩
    .exact⟨3,60,by decide +kernel,rfl,rfl⟩
   subst d;show Im y ?_;ext;exact BS (small (n:=4) oY) b q
def Kg:Ak P w K mg base (k+5) "turned" ["k","row"] (sU):=pJ.J (T.f.J 36) (pI ["k","row"]) λl _ y h=>by
 obtain⟨Z,a,rfl,M,Q,B,q⟩:=h;have m:=y.J;refine BU ⟨_,(AD (Au (Aa (CG T) y BI (pk l' ma))) (AE (AJ (Ax K oO oW oV (Dt K) (pC []) (pe (BE (own:=["sign"]) (sel:=[]) (A9 (osc:=(AX (top 66))) (N:=["k","row"]) bg) rfl (Vu rfl (T.N 12) (pe ma)) (λ_ _ _ _ _=>(Am (i:=0) (show(["sign"]:hE).Nodup from by decide +kernel) rfl (lY rfl))) (Av oY) (λ_ _ _ _ _=>BC) (λ_ _ _ _ _=>(AN (QX T) y (pe l'))))))))),?_⟩;have n:=Ai B;show .inl (Bs M Q B (λR S=>?_));show U0 (small oZ) (λD i G j=>G=(((a.reverse.take i).map λc=>[uN c]).map tx)/\pf D R j) (λD x=>⟨rfl,pf.Z (AL x _)⟩) (λD G j x d ⟨e,H⟩=>?_) ?_
 .have U:a.reverse.take a.length=a.reverse:=by rw[<-List.length_reverse,List.take_length]
  rw[U]at e;subst e;ext;have J:(a.reverse.map λc=>[uN c]).flatten=ub a:=by
   have:=ET (ub a);unfold ub at this⊢;rw[dC]at this;exact this
  have X:(ub a).length=a.length:=MJ a;refine Dv (pq.J d) (by rw[J,az,List.length_reverse];lia) ?_;rw[J];exact q j (S.J λb o z=>H b o z (AQ z x))
 .rintro D i c G j x L g d I ⟨e,H⟩;have Y:c∈a:=List.mem_reverse.mp (cE L);show CQ ?_;show SU (O6 (DP B c Y)) ?_;refine B8 g (small oZ) d I ⟨?_,H.J pf.ap⟩;rw[e,List.take_add_one,L];simp only[oX,b0,List.map_cons,List.map_nil]
def Sa:Ak P w K mg base (k+3) "filled" ["k","row"] (RP cs):=pJ.J (T.f.J 37) (pI ["k","row","places","sums"]) λg _ j h=>by
 refine⟨_,(AD (AO 2 (AN (FN T) j (pk l' ma))) (AD (AO 3 (AN (FP T) j (pe mm))) (AD (Au (Aa (P0 T) j A5 (pe nc))) (AE (AJ (Az (pk mm nc))))))),?_⟩;obtain⟨G,a,⟨rfl,H,I,J⟩,h⟩:=h;have d:=Ai J;rcases h with⟨c,r⟩|⟨c,q⟩
 .show EM H I d (λx L y B e=>?_);show EO (k:=G.toNat) e (by rw[az];exact d) oZ (CH oZ) (λb i M tb=>?_);ext;exact⟨_,b,i,_,_,rfl,tb, .inr ⟨(Hh _ _).trans c,r.J (B.J tb.c)⟩⟩
 .show EM H I d (λx L y B e=>?_);show EO (k:=G.toNat) e (by rw[az];exact d) oZ (CH oZ) (λb i M tb=>?_);show⟨_,b,i,_,_,rfl,tb, .inl ⟨λz=>c ((Hh _ _).symm.trans z),?_⟩⟩;show⟨small (n:=2) oY,λT Q=>?_⟩;have t:=AL Q (.b [.b x, .b b]);exact q T x b i _ _ ((B.J tb.c).J t) AF ((e.J tb.c).J t) (tb.Z t)
def JV:Ak P w K mg base (k+5) "sure_places" ["k","row"] (T3 cs):=pJ.J (T.f.J 38) (pI ["k","row","places","sums","in_all"]) λnd _ X h=>by
 have hu:=X.J;refine⟨_,(AD (Au (Aa (CG T) X A5 (pk l' ma))) (AD (Bc (Aa (Sa T) X A5 (pk l' ma)) (B2 (n:=2) K rfl (Ao (Ah 2) (Ao (Ah 3) Bh)))) (AD (Cu (i:=4) nd rfl (Or.inr rfl) (AN (FO T) X (pe nc))) (AE (AJ (BE (own:=["at","manies"]) (sel:=[4,1]) (A9 (osc:=(AX (top 69))) (N:=["k","row","places","sums","in_all"]) bg) rfl (SN K rfl (T.N 4) (pe (AN (P5 T) X (pk mm nc)))) (λ_ _ _ _ _=>(B2 (n:=2) K rfl (Ao (Am (i:=0) (show(["at","manies","in_all","row"]:hE).Nodup from by decide +kernel) rfl (lY rfl)) (Ao (Am (i:=1) (show(["at","manies","in_all","row"]:hE).Nodup from by decide +kernel) rfl (lY rfl)) Bh)))) (F8 (DE B9 (Fq B9 DL) (Av oY) (DE B9 DL (Av oY) F9))) (λ_ _ _ _ _=>Fl (PW.J (DW (AS (Af K hu) (AH K nc l') (Ac (T.g.J 4))) (DU (AS (Cv K) mm ma dp))))) (λ_ _ _ _ _=>(Az (pk l' (AH K (Ac (T.g.J 3)) (Ax K oN PySem.F.slot_list_index PySem.F.type_list_index Sh ma (pe mm)))))))))))),?_⟩;obtain⟨d,a,⟨rfl,h1,h2,Z⟩,h⟩:=h;have hl:=Ai Z;have hu:=X.J;rcases h with⟨hc,r⟩|⟨hc,q⟩
 .show .inl (Bs h1 h2 Z (λH1 A=>?_));ext;exact⟨d,a,⟨rfl,h1,h2,Z⟩, .inl ⟨hc,r.J A⟩⟩
 .show .inl (Bs h1 h2 Z (λH1 A=>?_));show⟨d,a,⟨rfl,h1,h2,Z⟩, .inr ⟨hc,λT p ss ad H0 H2 s2 gT hP tb=>?_⟩⟩;show⟨T,_,rfl,pX.J gT,rfl,?_⟩;show EK tb ?_;rw[Hh];ext;have S:(a.map (pO (ones d.toNat))).length=a.length:=az _;refine Wd hP (by rw[S];exact hl) (show d.toNat<=4 by lia) (CH oZ) (ZV oZ hl) (tb.J λi j _ hj=>(aU (S▸hj)).symm) (λF0 y H4 I=>?_);rw[S]at I;show⟨F0,rfl,⟨_,pq.J I.a⟩,?_⟩;have hrl:((aH a.length).map λi=>V.b (y i)).length=a.length:=by rw[az,dt]
  refine DG (n:=a.length) (λD n J Q=>pj H4 Q/\Rf Q J (((aH n).filterMap (B3 d.toNat a)).map g2)) (λD Y=>⟨AL Y _,rfl,λm x h=>by simp at h⟩) (λD n J Q Y t E p=>⟨_,_,pq.J (p.1 _ _ I.a),I.at t⟩) (λD J Q Y E a0 p=>⟨⟨_,pq.J (p.1 _ _ I.a),hrl.symm⟩,q D J Q (A.Z (s2.Z (I.c.Z Y))) ((A.J s2).J (I.c.J p.1)) E p.2⟩) ?_;rintro D n J G x G3 Y t E a0 ⟨sG,a1⟩ ⟨c,xx,a6,L,rfl,rfl⟩;have L:=L _ (pq.J (sG _ _ I.a));rw[I.at t]at L
  cases L
  have tT:=AL a6 (.b [.a (n:Int), .b (y n)]);have a8:(upd G c (.b [.a (n:Int), .b (y n)])) c=ae (.b [.a (n:Int), .b (y n)]):=AF;have s:=tT _ _ E;have l:=sG.J tT;have R:=a1.J tT;show FI K 2 _ (.b c) _ (upd G c (.b [.a (n:Int), .b (y n)])) _;generalize upd G c _=G4 at*
  have B:H4 (y n)=ae (.a (((aH (2*d.toNat)).map (atC d.toNat a n)).map V.a)):=by rw[I.b n t,UE];rfl
  have M:=SD d.toNat a n;have gc:a[n]? =ae (a.getD n 0):=by rw[ag,al t];rfl
  show⟨c,_,rfl,pX.J a8,rfl,?_⟩;show BS (small oZ) (AU gc) ?_;ext;have skip:B3 d.toNat a n=none->∃m',m'<a.length-n/\CW D a.length (λn J Q=>pj H4 Q/\Rf Q J (((aH n).filterMap (B3 d.toNat a)).map g2)) (n+1) m' G4:=λC=>by
   rw[C]at M;exact⟨a.length-(n+1),by lia,rfl,by lia,J,s,by lia,l,by rw[M];simpa using R⟩
  by_cases H:a.getD n 0=63
  .refine pK (by rw[H];rfl) ?_;show GG (.inl (pq.J (l _ _ B))) rfl (S8 _) ?_;rw[Lp]
   cases O:EF d.toNat a n with
   |none=>
    have a2:=TC O;have a3:¬qc d.toNat a∈(aH (2*d.toNat)).map (atC d.toNat a n):=λz=>by
     obtain⟨b,hb,e⟩:=List.mem_map.mp z;exact a2 b (List.mem_range.mp hb) e
    rw[ba a3];show pL rfl ?_;exact skip (by unfold B3;rw[aU H,O];rfl)
   |some b=>
    obtain⟨v,u,a5⟩:=TB O;have a4:qc d.toNat a∈(aH (2*d.toNat)).map (atC d.toNat a n):=List.mem_map.mpr ⟨b,List.mem_range.mpr u,v⟩;rw[be a4];show pK rfl ?_;show⟨pq.Z (pq.J (l _ _ B)),?_⟩;show UD (j:=b) (l _ _ B) (by rw[ao,bb u];exact congrArg ae v) (λm hm z=>?_) (by rw[az,dt];lia) ?_
    .rw[ao,bb oZ]at z;exact a5 m hm (Option.some.inj z)
    show BS (small oY) (AU (Fy (show b<8 by lia))) ?_;show⟨small (n:=2) oY,λT2 a7=>?_⟩;have t6:=AL a7 (.b [.a (n:Int),tx [pN.getD b 0]]);have g6:(upd G4 T2 (.b [.a (n:Int),tx [pN.getD b 0]])) T2=ae (.b [.a (n:Int),tx [pN.getD b 0]]):=AF;have U:=t6 _ _ s;rw[show B3 d.toNat a n=ae (n,b) by unfold B3;rw[aU H,O];rfl]at M;refine⟨J,U,by rw[sizeLine_eq];lia,a.length-(n+1),by lia,rfl,by lia,_,AF,by rw[aN,hH];lia,λz o C=>?_,?_⟩
    .rw[AG (AQ C Y)];exact t6 _ _ (l _ _ C)
    .rw[M,b0];exact((R.J t6).Z U).ap (by rw[AG (qN g6 U (λz=>by cases z))];exact g6)
  .refine pL (by simpa using H) ?_;refine pL rfl ?_;exact skip (by unfold B3;rw[aP H])
def Re:qp P w K mg base (k+1) "is_name" ["word"] (uJ):=pJ.u (T.f.J 39) (pI ["word"]) λm H I h=>by
 obtain⟨a,rfl,S,q⟩:=h;have U:=I.J;unfold isNm at q;refine⟨_,(AE (AJ (Er (Uc Ce Ce AC (Al K (T.N 7) (pe l')) (Ac (T.g.J 12))) (DY (Aj (EV K rfl) rfl (T.N 1) PyProof.Rows.boot_all (pe (BE (own:=["sign"]) (sel:=[]) (A9 (osc:=(AX (top 79))) (N:=["word"]) bg) rfl (Cb l') (λ_ _ _ _ _=>(Am (i:=0) (show(["sign"]:hE).Nodup from by decide +kernel) rfl (lY rfl))) (Av oY) (λ_ _ _ _ _=>BC) (λ_ _ _ _ _=>(BP (Cv K) l' (Ac (T.g.J 11)) dp))))))))),?_⟩;show qu (λJ=>?_) (λJ=>?_)
 .show qu (λL=>?_) (λL=>?_)
  .show HZ (small oZ) (λD i y j=>y=((a.take i).map λc=>V.c (decide (c∈uP)))/\pf D H j) (λD x=>⟨rfl,pf.Z (AL x _)⟩) (λD y j x d ⟨e,B⟩=>?_) ?_
   .rw[List.take_length]at e;subst e;have M:pq K j D ((a.map λc=>decide (c∈uP)).map V.c):=by
     rw[dC];exact pq.J d
    show E5 M ?_;have Q:((a.map λc=>decide (c∈uP)).all id)=(decide (1<=a.length/\a.length<=8)&&a.all λc=>decide (c∈uP)):=by
     rw[List.all_map,be oZ,Bool.true_and];rfl
    rw[Q];exact q j λb o z=>B b o z (AQ z x)
   .rintro D i c y j x R l d G ⟨e,B⟩;show CQ ?_;show B8 l (small oZ) d G ⟨?_,B.J pf.ap⟩;rw[e,List.take_add_one,R];simp only[oX,b0,List.map_cons,List.map_nil]
    rfl
  .have:=q H (pj.ap H);rw[ba oZ,Bool.false_and]at this;exact this
 .have:=q H (pj.ap H);rw[ba oZ,Bool.false_and]at this;exact⟨false,rfl,this⟩
def Qa:qp P w K mg base (k+1) "is_number" ["word"] (sZ):=pJ.u (T.f.J 40) (pI ["word"]) @λ_ _ _ _ _ _ Q _ r H S h=>by
 obtain⟨a,rfl,s,q⟩:=h;have J:=S.J;unfold FH at q;have x:¬ (1<=a.length/\a.length<=9)->Q (.c false) H:=λz=>by
  have:=q H (pj.ap H);rw[ba z,Bool.false_and,Bool.false_and]at this;exact this
 refine⟨_,(AD (AV (PW.J (BX (Bb (FX Ce Ce AC (Al K (T.N 7) (pe l')) (Ac (T.g.J 14)))) (Ba (Bb (BD K (Aj (EV K rfl) rfl (T.N 1) PyProof.Rows.boot_all (pe (BE (own:=["sign"]) (sel:=[]) (A9 (osc:=(AX (top 80))) (N:=["word"]) bg) rfl (Cb l') (λ_ _ _ _ _=>(Am (i:=0) (show(["sign"]:hE).Nodup from by decide +kernel) rfl (lY rfl))) (Av oY) (λ_ _ _ _ _=>BC) (λ_ _ _ _ _=>(BP (Cv K) l' (Ac (T.g.J 13)) dp)))))))))) (AE (AJ Cz)) AW) (AE (AJ (OV (BP (Af K J) (Al K (T.N 7) (pe l')) AC) (DY (BP (CA K J) (AH K l' AC) (pC [48]))))))),?_⟩;show qu (λU=>?_) (λU=>?_)
 .ext
  by_cases L:(a.length:Int)<=9
  .refine pL (by rw[be L];rfl) ?_;show HZ (small oZ) (λD i B l=>B=((a.take i).map λc=>V.c (decide (c∈wZ)))/\pf D H l) (λD y=>⟨rfl,pf.Z (AL y _)⟩) (λD B l y j ⟨e,G⟩=>?_) ?_
   .rw[List.take_length]at e;subst e;have X:pq K l D ((a.map λc=>decide (c∈wZ)).map V.c):=by
     rw[dC];exact pq.J j
    have Y:pj H l:=λb o z=>G b o z (AQ z y);have d:=q l Y;rw[be (show 1<=a.length/\a.length<=9 by lia),Bool.true_and]at d;show E5 X ?_;have Z:((a.map λc=>decide (c∈wZ)).all id)=(a.all λc=>decide (c∈wZ)):=by
     rw[List.all_map];rfl
    rw[Z];ext
    cases M:(a.all λc=>decide (c∈wZ))with
    |false=>
     rw[M,Bool.false_and]at d;refine pK rfl ?_;ext;exact d
    |true=>
     rw[M,Bool.true_and]at d;refine pL rfl ?_;show qu (λn=>?_) (λn=>?_)
     .rw[be (show a.length=1 by lia),Bool.true_or]at d;exact d
     .rw[ba (show¬a.length=1 by lia),Bool.false_or]at d;have R:0<a.length:=by lia
      show BS (c:=a[0]) (small oZ) (by rw[U4 R]) ?_;ext;have:(!decide ([a[0]]=[48]))= !decide (a[0]? =ae 48):=by
       rw[al R];congr 1;exact decide_eq_decide.mpr ⟨λz=>by rw[(List.cons.inj z).1],λz=>by rw[Option.some.inj z]⟩
      rw[this];exact d
   .rintro D i c B l y p m j I ⟨e,G⟩;show CQ ?_;show B8 m (small oZ) j I ⟨?_,G.J pf.ap⟩;rw[e,List.take_add_one,p];simp only[oX,b0,List.map_cons,List.map_nil]
    rfl
  .refine pK (by rw[ba L];rfl) ?_;ext;exact x oZ
 .ext;rw[aU (show(!false)=true from rfl),aU rfl];ext;exact x oZ
def Q3:qp P w K mg base (k+2) "has_form" ["word","part"] (tP):=pJ.u (T.f.J 41) (pI ["word","part"]) λc H b h=>by
 obtain⟨a,p,rfl,i,q⟩:=h;have j:=b.J;unfold CC at q;refine⟨_,(AD (AV (AS (Af K j) ma (pC [108,105,110,101])) (AE (AJ Cz)) AW) (AE (AJ (BR (AS (Af K j) ma (pC [110,117,109,98,101,114])) (AN (Qa T) b (pe l')) (AN (Re T) b (pe l')))))),?_⟩;show qu (λd=>?_) (λd=>?_)
 .rw[aU d]at q;ext;exact q H (pj.ap H)
 .rw[aP d]at q;show qu (λe=>?_) (λe=>?_)
  .rw[aU e]at q;ext;exact⟨a,rfl,i,q⟩
  .rw[aP e]at q;ext;exact⟨a,rfl,i,q⟩
def SZ:qp P w K mg base (k+1) "parted" ["text","form"] (uG K):=pJ.u (T.f.J 42) (pI ["text","form"]) λc H j h=>by
 obtain⟨l,t,b,rfl,y,B,G,q⟩:=h;have I:=j.J;have a:pX K H t (b.map tx):=y.J;have e:(b.map tx).all BB=true:=by rw[List.all_map,List.all_eq_true];intro x _;rfl
 refine⟨_,(AE (AJ (BR (AS (Cv K) (pC [108,105,110,101]) ma dp) (Ax K oO PySem.F.slot_str_split PySem.F.type_str_split Li l' (pk (pC [32]) (Al K (T.N 7) (pe ma)))) (Ax K oO PySem.F.slot_str_split PySem.F.type_str_split Li l' (pe (pC [32])))))),?_⟩;show GG (.inr a) rfl e ?_;have z:su (tx Cd) (b.map tx)=decide (Cd∈b):=by
  exact IX Cd b
 rw[z];show qu (λi=>?_) (λi=>?_)
 .show BN (.inr a) ?_;rw[az];show UA oZ oZ oZ (λp d=>?_);rw[fb];refine q p _ d (AL d _) ?_;unfold rl;rw[aU i];exact AF
 .show VL oZ (λp d=>?_);refine q p _ d (AL d _) ?_;unfold rl;rw[aP i];exact AF
def QD:qp P w K mg base (k+3) "known_words" ["thing"] (T7 K):=pJ.u (T.f.J 43) (pI ["thing","first","form","words"]) @λ_ _ _ _ _ vs Q _ nd H hr h=>by
 have hu:=hr.J;obtain⟨FK,R,hF,hN⟩:=T.F;have h9:∃v,vs=[v]/\((∃l,v=tx l/\l.length<=1000/\(∀d ar,rL l=ae (d,ar)->∀p m,H p=none->pj H m->m p=ae (.a ((d.J::ar).map tx))->Q (.b p) m)/\(rL l=none->∀m,pj H m->Q .d m))\/((∃r,pQ K H v (.type r)/\r∈CJ/\r≠"str")/\Q .d H)):=by
  rcases h with⟨l,d,ar,rfl,hl,hk,q⟩|⟨v,rfl,⟨l,rfl,hl,hk⟩|hty,q⟩
  .exact⟨_,rfl, .inl ⟨l,rfl,hl,λd' a7 e=>(by rw[hk]at e;cases e;exact q),λe=>(by rw[hk]at e;cases e)⟩⟩
  .exact⟨_,rfl, .inl ⟨l,rfl,hl,λd' a7 e=>(by rw[hk]at e;cases e),λ_=>q⟩⟩
  .exact⟨_,rfl, .inr ⟨hty,q H (pj.ap H)⟩⟩
 obtain⟨v,e0,h8⟩:=h9;clear h;subst e0;refine⟨_,(AD (AV (Bb (BD K (Aj (Dr K) rfl (T.N 6) oM (pk l' (D8 (T.N 15) oR))))) (AE (AJ Ar)) AW) (AD (AO 1 (AH K (Ax K oO PySem.F.slot_str_partition PySem.F.type_str_partition WE l' (pe (pC [32]))) AC)) (AD (AV (Dw (RV P w K ma (Ac (T.g.J 15))) dp) (AE (AJ Ar)) AW) (AD (AO 2 (IS P w K (Ac (T.g.J 15)) ma)) (AD (AO 3 (AN (SZ T) hr (pk l' mm))) (AD (AV (AS (CA K hu) (Al K (T.N 7) (pe nc)) (AI AM (Al K (T.N 7) (pe mm)) AC)) (AE (AJ Ar)) AW) (AE (AJ (BR (BD K (Aj (EV K rfl) rfl (T.N 1) PyProof.Rows.boot_all (pe (BE (own:=["word","part"]) (sel:=[]) (A9 (osc:=(AX (top 83))) (N:=["thing","first","form","words"]) bg) rfl (Fm K rfl (T.N 17) (pk (A1 (A7 K) nc (A3 AC) A4) mm)) (λ_ _ _ _ _=>(B2 (n:=2) K rfl (Ao (Am (i:=0) (show(["word","part"]:hE).Nodup from by decide +kernel) rfl (lY rfl)) (Ao (Am (i:=1) (show(["word","part"]:hE).Nodup from by decide +kernel) rfl (lY rfl)) Bh)))) (F8 (DE B9 (Fq B9 DL) (Av oY) (DE B9 DL (Av oY) F9))) (λ_ _ _ _ _=>BC) (λ_ _ _ _ _=>(AN (Q3 T) hr (pk l' ma))))))) nc Ar))))))))),?_⟩;ext;rcases h8 with⟨l,rfl,s,q,E⟩|⟨⟨r,J,hp,hs⟩,q⟩
 rotate_left
 .refine Bw (b:=false) J (by
   have:r="NoneType"\/r="bool"\/r="int"\/r="str"\/r="list"\/r="tuple"\/r="dict":=by simpa[CJ]using hp
   rcases this with rfl|rfl|rfl|rfl|rfl|rfl|rfl<;>first|exact absurd rfl hs|with_unfolding_all rfl) ?_
  show pK rfl ?_;ext;exact q
 refine Bw (b:=true) (pQ.b _) dp ?_;show pL rfl ?_;show VN oZ (Ku l) (λp v u hp=>?_);ext;have L:=AL hp (.b [tx (Bz l),v,u]);refine BJ (pX.J AF) rfl ?_;generalize upd H p _=H1 at*
 show⟨aF,FK,pA (Bz l),rfl,R,rfl,?_⟩;ext
 cases U:pW.of (Bz l)with
 |none=>
  refine pK (by rw[hN _ U];rfl) ?_;ext;exact E (by unfold rL;rw[U]) H1 L
 |some d=>
 have ew:=Mr U;obtain⟨t,O,J⟩:=hF d;rw[ew]at O;refine pL (by rw[O];rfl) ?_;show⟨aF,FK,pA (Bz l),_,rfl,R,rfl,O,?_⟩;ext;have b1:=d.ap;refine⟨l,t,d.Z,rfl,J,by lia,s,λp2 H2 a1 X j=>?_⟩;have ek:rL l=if(rl l d.Z).tail.length=d.Z.length/\(((rl l d.Z).tail).zip d.Z).all (λx=>CC x.1 x.2)=true then ae (d,(rl l d.Z).tail)else none:=by
  show(match pW.of (Bz l)with|none=>none|some d=>_)=_;rw[U]
 have a9:(rl l d.Z).tail.length<=1001:=by
  have:(rl l d.Z).length<=l.length+1:=by unfold rl;split<;>exact Ef _ _ _
  rw[List.length_tail];lia
 have a4:∀a∈(rl l d.Z).tail,a.length<=1000:=λa Y=>bw (K9 (List.mem_of_mem_tail Y)) s;rw[LA]at j;rw[<-ew]at j;generalize(rl l d.Z).tail=args at*
 show BN (.inl (pq.J j)) ?_;show BN (.inr J.J) ?_;ext
 by_cases B:args.length=d.Z.length
 rotate_left
 .refine pK (by rw[ba];rfl;simp only[az,aJ];lia) ?_;ext;exact E (by rw[ek,aP (λz=>B z.1)]) H2 (L.J X)
 refine pL (by rw[be];rfl;simp only[az,aJ];lia) ?_;show E3 (pq.J j) (λz hz=>?_);have ez:C7 ((d.J::args).map tx) (ae 1) none=args.map tx:=L7 _ _;rw[ez];have C:=AL hz (.a (args.map tx));have G:(upd H2 z (.a (args.map tx))) z=ae (.a (args.map tx)):=AF;have a8:H z=none:=L.Z (X.Z hz);generalize upd H2 z _=H3 at*
 have a2:=C _ _ j;show⟨.l z, .t t,_,_,rfl,pq.J G,J.J,?_⟩;refine ND (by rw[az,az];lia) (λD i Z m=>Z=(((args.zip d.Z).take i).map λx=>CC x.1 x.2).map V.c/\pf D H3 m) (λD i Z m M ⟨_,S⟩=>⟨pq.J (S _ _ G (AQ G M)),J.J⟩) (λD M=>⟨rfl,pf.Z (AL M _)⟩) (λD Z m M I ⟨e,S⟩=>?_) ?_
 .have e0:(args.zip d.Z).take ((args.map tx).length)=args.zip d.Z:=List.take_of_length_le (by rw[List.length_zip,az];lia);rw[e0]at e;subst e;show E5 (pq.J I) ?_;have e2:(((args.zip d.Z).map λx=>CC x.1 x.2).all id)=(args.zip d.Z).all λx=>CC x.1 x.2:=by rw[List.all_map];rfl
  rw[e2];have A:pj H3 m:=λb o y=>S b o y (AQ y M);ext
  cases e3:(args.zip d.Z).all λx=>CC x.1 x.2 with
  |true=>
   refine pK rfl ?_;ext;exact q d args (by rw[ek,aU ⟨B,e3⟩]) p2 m (L.Z a1) (((L.J X).J C).J A) (A _ _ a2)
  |false=>
   refine pL rfl ?_;ext;exact E (by rw[ek,aP (λz=>by rw[e3]at z;cases z.2)]) m (((L.J X).J C).J A)
 .rintro D i c dv T' Z H4 H5 M hc wz hi I a3 ⟨e,S⟩ s5 a5;obtain⟨a,Y,rfl⟩:∃a,args[i]? =ae a/\tx a=c:=by
   rw[ao]at hc;obtain⟨a,h1,h2⟩:=dj.mp hc;exact⟨a,h1,h2⟩
  obtain⟨pp,a0,rfl⟩:∃a,d.Z[i]? =ae a/\tx a=dv:=by
   rw[ao]at wz;obtain⟨a,h1,h2⟩:=dj.mp wz;exact⟨a,h1,h2⟩
  refine DV (pX.J a5) rfl ?_;show CQ ?_;show⟨a,pp,rfl,a4 a (cE Y),λH6 s6=>?_⟩;refine B8 hi (small (by rw[az];lia)) (s6 _ _ I) a3 ⟨?_,?_⟩
  .have a6:(args.zip d.Z)[i]? =ae (a,pp):=by rw[List.getElem?_zip_eq_some];exact⟨Y,a0⟩
   rw[e,List.take_add_one,a6];simp only[oX,b0,List.map_cons,List.map_nil]
  .exact((S.J (pf.Z (s5.J s6))).J pf.ap)
def Jf:qp P w K mg base (k+1) "yes_or_no" ["truth"] (vI):=pJ.u (T.f.J 44) (pI ["truth"]) λa _ _ h=>by
 obtain⟨b,rfl,q⟩:=h;refine⟨_,(AE (AJ (BR (BD K l') (pC [121,101,115]) (pC [110,111])))),?_⟩;ext
 cases b with
 |true=>
  refine pK rfl ?_;ext;exact q
 |false=>
  refine pL rfl ?_;ext;exact q
def FZ:qp P w K mg base (k+1) "shown" ["row"] (vL):=pJ.u (T.f.J 45) (pI ["row"]) λc _ b h=>by
 obtain⟨a,rfl,d,q⟩:=h;have i:=b.J;refine⟨_,(AE (AJ (BR (BD K l') l' (Ac (T.g.J 9))))),?_⟩;show Wy (small d) ?_
 by_cases e:a=[]
 .rw[be e];refine pL rfl ?_;ext;rw[rK,aU e]at q;exact q
 .rw[ba e];refine pK rfl ?_;ext;rw[rK,aP e]at q;exact q
def QW:Ak P w K mg base (k+3) "say_kinds" ["desk","words"] (rD cs aE):=pJ.J (T.f.J 46) (pI ["desk","words","k"]) λs H e h=>by
 have J:=e.J;have x:=Ay e;refine⟨_,(AD (AO 2 (BA HB rfl (T.N 5) oP (pe (AH K ma AC)))) (AD (Au (Aa (JX T) e A5 (pe mm))) (AD (Cq K l' mm) (AD (Cq K l' DS) (AE (AJ (Ac (T.g.J 8)))))))),?_⟩;obtain⟨d,o,r,k,p,n,rfl,hd,I,M,h⟩:=h;have J:=e.J;have x:=Ay e;obtain⟨⟨y,B⟩,Q⟩:=id hd;have L:=hd.Z;rcases h with⟨u,t,q⟩|⟨l,c⟩
 .show AK (pq.J I) rfl ?_;show F7 oZ ?_;show .inl (Kn oZ oZ ?_);show⟨d,aE,y,_,rfl,B,T.E.a,(T.E.Z 0),by show 2<1000;decide,?_⟩;ext;intro a b;ext;have G:H a=none:=by
   by_cases z:a=d
   .subst z;rw[AF]at b;cases b
   .rwa[AG z]at b
  have j:d≠a:=λz=>by rw[z,G]at B;cases B
  refine⟨d,aE,y,_,rfl,by rw[AG j];exact AF,T.E.a,(T.E.Z 1),by show 2<1000;decide,?_⟩;show q a _ G (((FB.J _ _).tE b').new G|>.tE b') ⟨⟨y,?_⟩,?_⟩
  .rw[AF];rfl
  .rw[AG j.symm];exact AF
 .show AK (pq.J I) rfl ?_;show F7 oZ ?_;ext;exact .inr ⟨_,rfl,⟨"int",pQ.a _,by decide,λi m=>by cases m;lia⟩,c.J (pj.ap H)⟩
def RY:Ak P w K mg base (k+5) "say_row" ["desk","words"] (rX cs aE):=pJ.J (T.f.J 47) (pI ["desk","words"]) λt H e h=>by
 have z:=e.J;have i:=Ay e;refine⟨_,(AD (Au (Aa (CG T) e A5 (pk (AY K l') (AH K ma AC)))) (AD (DC i (AY K l') (AH K ma AC) (AH K ma AC) rfl) (AE (AJ (Ac (T.g.J 8)))))),?_⟩;obtain⟨d,o,r,k,p,B,a,rfl,hd,m,l,J,j,L,h⟩:=h;have z:=e.J;have i:=Ay e;obtain⟨⟨G,x⟩,I⟩:=id hd;have y:=hd.Z;rcases h with⟨c,q⟩|⟨c,n⟩
 .show T.E.J 0 x ?_;show AK (pq.J j) rfl ?_;show .inl (Bs m l c (λM b=>?_));show AK (pq.J (b _ _ j)) rfl ?_;show T.E.J 1 (b _ _ x) ?_;show AK (pq.J (b _ _ j)) rfl ?_;show⟨r,_,rfl,qX.k (k:=pA B) (b _ _ I) (by rw[sizeLine_eq];lia),?_⟩;ext;exact q _ (((FB.J _ _).s b).tE b') ⟨⟨G,by rw[AG y];exact b _ _ x⟩,AF⟩
 .show T.E.J 0 x ?_;show AK (pq.J j) rfl ?_;ext;exact .inr ⟨_,_,rfl, .inr ⟨k,rfl,m,l, .inl ⟨a,rfl,by lia,c⟩,n.J (pj.ap H)⟩⟩
def Qn:Ak P w K mg base (k+6) "say_turn" ["desk","words"] (rV aE):=pJ.J (T.f.J 48) (pI ["desk","words"]) λp _ j h=>by
 obtain⟨d,n,r,k,o,B,c,a,rfl,hd,m,l,J,y,G,H,q⟩:=h;have L:=j.J;have b:=Ay j;obtain⟨⟨I,i⟩,z⟩:=id hd;have x:=hd.Z;refine BU ⟨_,(AD (DC b (AY K l') (AH K ma AC) (Aa (Kg T) j BI (pk (AY K l') (A6 b (AY K l') (AH K ma AC)))) rfl) (AE (AJ (Ac (T.g.J 8))))),?_⟩;show T.E.J 0 i ?_;show T.E.J 1 i ?_;show AK (pq.J y) rfl ?_;show⟨r,_,rfl,by rw[<-G];exact pG.k (k:=pA c) z,?_⟩;show Jy m l H (λM e=>?_);show T.E.J 1 (e _ _ i) ?_;show AK (pq.J (e _ _ y)) rfl ?_;show⟨r,_,rfl,qX.k (k:=pA B) (e _ _ z) (by rw[sizeLine_eq];lia),?_⟩;ext;exact q _ (((FB.J _ _).s e).tE b') ⟨⟨I,by rw[AG x];exact e _ _ i⟩,AF⟩
def QL:Ak P w K mg base (k+5) "say_behind" ["desk","words"] (qZ cs aE):=pJ.J (T.f.J 49) (pI ["desk","words","both"]) λv H j h=>by
 have J:=j.J;have e:=Ay j;refine⟨_,(AD (AO 2 (AI AM (A6 e (AY K l') (AH K ma AC)) (A6 e (AY K l') (AH K ma AC)))) (AD (Au (Aa (CG T) j A5 (pk (AY K l') mm))) (AD (DC e (AY K l') (AH K ma AC) mm rfl) (AE (AJ (Ac (T.g.J 8))))))),?_⟩;obtain⟨d,t,r,k,u,L,m,l,a,b,rfl,hd,o,n,Q,x,I,y,R,S,h⟩:=h;have J:=j.J;have e:=Ay j;obtain⟨⟨M,i⟩,z⟩:=id hd;have G:=hd.Z;have U:(a++b).length<=80:=by rw[aN];lia
 rcases h with⟨c,q⟩|⟨c,p⟩
 .show T.E.J 1 i ?_;show AK (pq.J x) rfl ?_;show⟨r,_,rfl,by rw[<-I];exact pG.k (k:=pA m) z,?_⟩;show T.E.J 1 i ?_;show AK (pq.J x) rfl ?_;show⟨r,_,rfl,by rw[<-y];exact pG.k (k:=pA l) z,?_⟩;show T.E.J 0 i ?_;show .inl (Bs o n c (λX B=>?_));show T.E.J 1 (B _ _ i) ?_;show AK (pq.J (B _ _ x)) rfl ?_;show⟨r,_,rfl,qX.k (k:=pA L) (B _ _ z) (by rw[sizeLine_eq];lia),?_⟩;ext;exact q _ (((FB.J _ _).s B).tE b') ⟨⟨M,by rw[AG G];exact B _ _ i⟩,AF⟩
 .show T.E.J 1 i ?_;show AK (pq.J x) rfl ?_;show⟨r,_,rfl,by rw[<-I];exact pG.k (k:=pA m) z,?_⟩;show T.E.J 1 i ?_;show AK (pq.J x) rfl ?_;show⟨r,_,rfl,by rw[<-y];exact pG.k (k:=pA l) z,?_⟩;show T.E.J 0 i ?_;ext;exact .inr ⟨_,_,rfl, .inr ⟨k,rfl,o,n, .inl ⟨a++b,rfl,by lia,c⟩,p.J (pj.ap H)⟩⟩
def Qt:Ak P w K mg base (k+1) "say_drop" ["desk","words"] (rY aE):=pJ.J (T.f.J 50) (pI ["desk","words"]) λm _ e h=>by
 obtain⟨d,l,r,k,c,a,v,rfl,hd,x,y,q⟩:=h;have G:=e.J;have z:=Ay e;obtain⟨⟨B,i⟩,j⟩:=id hd;have b:=hd.Z;refine BU ⟨_,(AD (Au (UZ (AY K l') (AH K ma AC) ⟨rfl,rfl,rfl,rfl⟩)) (AE (AJ (Ac (T.g.J 8))))),?_⟩;show T.E.J 1 i ?_;refine⟨r,rfl, .inl ⟨c, .inl j⟩,?_⟩;show AK (pq.J x) rfl ?_;refine⟨c,pA a,v,j,rfl,y,?_⟩;ext;exact q _ ((FB.J _ _).tE b') ⟨⟨B,by rw[AG b];exact i⟩,AF⟩
def Qq:Ak P w K mg base (k+2) "say_show" ["desk","words"] (rW aE):=pJ.J (T.f.J 51) (pI ["desk","words"]) λm H b h=>by
 obtain⟨d,g,r,k,l,c,a,rfl,hd,i,j,x,q⟩:=h;have G:=b.J;have e:=Ay b;obtain⟨⟨I,y⟩,z⟩:=id hd;have B:=hd.Z;refine BU ⟨_,(AE (AJ (AN (FZ T) b (pe (A6 e (AY K l') (AH K ma AC)))))),?_⟩;show T.E.J 1 y ?_;show AK (pq.J i) rfl ?_;show⟨r,_,rfl,by rw[<-j];exact pG.k (k:=pA c) z,?_⟩;ext;exact⟨a,rfl,x,q H (pj.ap H)⟩
def QU:Ak P w K mg base (k+6) "say_right" ["desk","words"] (sW aE):=pJ.J (T.f.J 52) (pI ["desk","words"]) λp _ b h=>by
 obtain⟨d,n,r,H,o,c,a,h,q⟩:=h;obtain⟨rfl,m,l,g,j,x,y⟩:=h;have I:=b.J;have e:=Ay b;obtain⟨⟨J,i⟩,z⟩:=id m;refine BU ⟨_,(AE (AJ (AN (Jf T) b (pe (Aa (Gg T) b BI (pk (AY K l') (A6 e (AY K l') (AH K ma AC)))))))),?_⟩;show T.E.J 0 i ?_;show T.E.J 1 i ?_;show AK (pq.J j) rfl ?_;show⟨r,_,rfl,by rw[<-x];exact pG.k (k:=pA c) z,?_⟩;show .inl (Gk l g y (λB G=>?_));ext;exact⟨_,rfl,q B G⟩
def Ra:Ak P w K mg base (k+7) "say_may" ["desk","words"] (vc aE):=pJ.J (T.f.J 53) (pI ["desk","words"]) λp _ b h=>by
 obtain⟨d,n,r,H,o,c,a,h,q⟩:=h;obtain⟨rfl,m,l,g,j,x,y⟩:=h;have I:=b.J;have e:=Ay b;obtain⟨⟨J,i⟩,z⟩:=id m;refine BU ⟨_,(AE (AJ (AN (Jf T) b (pe (Aa (Jh T) b BI (pk (AY K l') (A6 e (AY K l') (AH K ma AC)))))))),?_⟩;show T.E.J 0 i ?_;show T.E.J 1 i ?_;show AK (pq.J j) rfl ?_;show⟨r,_,rfl,by rw[<-x];exact pG.k (k:=pA c) z,?_⟩;show Kt l g y (λB G=>?_);ext;exact⟨_,rfl,q B G⟩
def Qs:Ak P w K mg base (k+6) "say_many" ["desk","words"] (um aE):=pJ.J (T.f.J 54) (pI ["desk","words"]) λp _ b h=>by
 obtain⟨d,n,r,x,o,c,a,h,q⟩:=h;obtain⟨rfl,m,l,g,y,z,i⟩:=h;have L:=b.J;have e:=Ay b;obtain⟨⟨M,j⟩,B⟩:=id m;refine BU ⟨_,(AE (AJ (BA Ck rfl (T.N 15) oR (pe (Aa (Gh T) b BI (pk (AY K l') (A6 e (AY K l') (AH K ma AC)))))))),?_⟩;show T.E.J 0 j ?_;show T.E.J 1 j ?_;show AK (pq.J y) rfl ?_;show⟨r,_,rfl,by rw[<-z];exact pG.k (k:=pA c) B,?_⟩;show .inl (HU l g i (λG H=>?_));ext;obtain⟨I,J⟩:=NG (k:=x.toNat) (a:=a) oZ (Ai i);rw[<-I];refine Cr J ?_;exact q G H
def RZ:Ak P w K mg base (k+6) "say_nth" ["desk","words"] (vb cs aE):=pJ.J (T.f.J 55) (pI ["desk","words"]) λA H b h=>by
 obtain⟨d,u,r,z,v,c,a,n,h,Q,q⟩:=h;obtain⟨rfl,s,l,g,x,B,e⟩:=h;have R:=b.J;have j:=Ay b;obtain⟨⟨S,y⟩,G⟩:=id s;refine⟨_,(AE (AJ (AN (FZ T) b (pe (Aa (Gc T) b A5 (pF (AY K l') (A6 j (AY K l') (AH K ma AC)) (BA HB rfl (T.N 5) oP (pe (AH K ma AC))))))))),?_⟩;show T.E.J 0 y ?_;show T.E.J 1 y ?_;show AK (pq.J (x)) rfl ?_;show⟨r,_,rfl,by rw[<-B];exact pG.k (k:=pA c) (G),?_⟩;show AK (pq.J x) rfl ?_;show F7 oZ ?_;ext;have U:=Ai e;rcases q with⟨m,q⟩|⟨m,o⟩
 .refine HP l g e oZ m (λt I J L M=>?_);ext;exact⟨_,rfl,by unfold pU;rw[az];lia,q t I J L M⟩
 .exact .inr ⟨_,_,_,rfl, .inr ⟨z,a,rfl,rfl,l,g,e,⟨"int",pQ.a _,by decide,λi p=>by cases p;lia⟩,o.J (pj.ap H)⟩⟩
def QJ:Ak P w K mg base (k+8) "say_number" ["desk","words"] (rZ cs aE):=pJ.J (T.f.J 56) (pI ["desk","words"]) λD H x h=>by
 obtain⟨d,A,r,e,C,p,a,b,h,M,q⟩:=h;obtain⟨rfl,t,g,c,y,Q,B⟩:=h;have O:=x.J;have G:=Ay x;obtain⟨⟨dx,I⟩,R⟩:=id t;refine⟨_,(AD (Au (Aa (CG T) x A5 (pk (AY K l') (AH K ma AC)))) (AE (AJ (BA Ck rfl (T.N 15) oR (pe (Aa (Jg T) x A5 (pF (AY K l') (A6 G (AY K l') (AH K ma AC)) (AH K ma AC)))))))),?_⟩;show T.E.J 0 I ?_;show AK (pq.J y) rfl ?_;ext;rcases q with⟨i,n⟩|q
 .exact .inr ⟨_,_,rfl, .inr ⟨e,rfl,g,c, .inl ⟨b,rfl,by lia,i⟩,n.J (pj.ap H)⟩⟩
 have i:AR e b=true:=by rcases q with⟨z,_⟩|⟨z,_⟩<;>exact z
 refine .inl (Bs g c i (λH1 j=>?_));show T.E.J 0 (j _ _ I) ?_;show T.E.J 1 (j _ _ I) ?_;show AK (pq.J (j _ _ y)) rfl ?_;show⟨r,_,rfl,by rw[<-Q];exact pG.k (k:=pA p) (j _ _ R),?_⟩;show AK (pq.J (j _ _ y)) rfl ?_;ext;have L:=Ai B;rcases q with⟨_,l,n⟩|⟨_,v,rfl,l,q⟩
 .exact .inr ⟨_,_,_,rfl, .inr ⟨e,a,rfl,rfl,g,c,B, .inl ⟨b,rfl,M,l⟩,n.J j⟩⟩
 .refine Jp g c B l (λS U=>?_);ext;obtain⟨_,h0,J⟩:=Fi.Z (k:=e.toNat) oZ L (by intro o X;cases X) l;have V:=(Ee (k:=e.toNat) (a:=a) oZ L).2;have Y:W e.toNat a 0 []=qc e.toNat a:=rfl;rw[Y]at J;have Z:=q S (j.J U);generalize num e.toNat a 0 [] v=m at*
  have u:m=((m.toNat:Nat):Int):=by lia
  have s:m.toNat<2^1900:=by
   have:m.toNat<=5^40:=by lia
   exact dE this bg
  rw[u];refine Cr s ?_;exact Z
def Qp:Ak P w K mg base (k+6) "say_sure" ["desk","words"] (uf cs aE):=pJ.J (T.f.J 57) (pI ["desk","words","row","signs","at","bracket"]) @λ_ _ _ _ _ vs _ _ nd H S h=>by
 obtain⟨d,ws,r,B,ph,s,a,h,q⟩:=h;obtain⟨rfl,hd,k1,k4,hw,hv,X⟩:=h;have hu:=S.J;have Y:=Ay S;obtain⟨⟨dx,e1⟩,e2⟩:=id hd;have hl:=Ai X;refine⟨_,(AD (AO 2 (A6 Y (AY K l') (AH K ma AC))) (AD (AO 3 (BA (KL K rfl) rfl (T.N 8) PyProof.Rows.boot_list (pe mm))) (AD (BL PassesOwn.leaving rfl (C9 K (Aa (JV T) S A5 (pk (AY K l') mm))) (B2 (n:=2) K rfl (Ao (Ah 4) (Ao (Ah 5) Bh))) (AE (Bc nS (Cc nc nt Bf)))) (AE (AJ (AN (FZ T) S (pe (Ax K oO oW oV (Dt K) (pC []) (pe nc))))))))),?_⟩;show T.E.J 1 e1 ?_;show AK (pq.J hw) rfl ?_;show⟨r,_,rfl,by rw[<-hv];exact pG.k (k:=pA s) e2,?_⟩;show MY oZ (λg J=>?_);have Z:=AL J (.a ((a.map λc=>[c]).map tx));have h1:(upd H g (.a ((a.map λc=>[c]).map tx))) g=ae (.a ((a.map λc=>[c]).map tx)):=AF;generalize upd H g _=H1 at*
 show T.E.J 0 (Z _ _ e1) ?_;ext;rcases q with⟨C,rf⟩|⟨C,q⟩
 .exact⟨B,a,⟨rfl,k1,k4,X⟩, .inl ⟨C,rf.J Z⟩⟩
 refine⟨B,a,⟨rfl,k1,k4,X⟩, .inr ⟨C,λD vs H2 hD s2 L hS=>?_⟩⟩;have M:∀x∈By B.toNat a,x.1<a.length:=λx U=>MM U;have h2:=s2 _ _ h1;have Q:vs.length=(By B.toNat a).length:=by rw[hS.1,az]
 have V:D≠g:=λz=>by rw[z,h1]at hD;cases hD
 show⟨D,rfl,⟨_,pq.J L⟩,?_⟩;refine HX (xs:=vs) (λi l G=>∃u t,l=[ae (.b d),ae (.b ws),ae (tx a),ae (.b g),u,t]/\pf g H2 G/\G g=ae (.a (((CO a ((By B.toNat a).take i)).map λc=>[c]).map tx))) ⟨_,_,rfl,pf.Z (pj.ap _),h2⟩ (λi l G _ ⟨_,_,_,I,_⟩=>pq.J (I _ _ L V)) ?_ ?_
 .intro i x l G U p;obtain⟨u,t,rfl,I,m⟩:=p;have hi:i<vs.length:=(aR.mp U).1;obtain⟨y,v⟩:∃y,(By B.toNat a)[i]? =ae y:=⟨_,al (by rw[<-Q];exact hi)⟩;obtain⟨T1,R,e⟩:=hS.2 i _ (by rw[ao,v];rfl);rw[U]at R
  cases R
  have e:H2 T1=ae (.b [.a y.1,tx [pN.getD y.2 0]]):=e;have A:=M y (cE v);have O:T1≠g:=λz=>by rw[z,h2]at e;cases e
  show⟨T1,_,rfl,pX.J (I _ _ e O),rfl,?_⟩;show Bj m (j:=y.1) (My (by rw[az,az,DQ];exact A)) ?_;show⟨_,_,rfl,I.J pf.ap,?_⟩;rw[AF,List.take_add_one,v];simp only[oX];rw[KQ,List.map_set,List.map_set]
 .intro l G p;obtain⟨u,t,rfl,I,m⟩:=p;rw[Q,List.take_length]at m;show Dv (pq.J m) (by rw[ET,az,DQ];lia) ?_;rw[ET];ext;exact⟨_,rfl,by rw[DQ];lia,q G λb o z=>I b o (s2 _ _ (Z _ _ z)) (AQ z J)⟩
def QK:Ak P w K mg base (k+6) "say_fewest" ["desk","words"] (vg aE):=pJ.J (T.f.J 58) (pI ["desk","words","found"]) λC _ i h=>by
 obtain⟨d,u,r,j,A,m,a,h,q⟩:=h;obtain⟨rfl,t,s,p,H,I,z⟩:=h;have U:=i.J;have x:=Ay i;obtain⟨⟨X,B⟩,J⟩:=id t;have Y:=Ai z;refine BU ⟨_,(AD (AO 2 (Aa (JS T) i BI (pk (AY K l') (A6 x (AY K l') (AH K ma AC))))) (AE (AJ (BR (AS Bm mm Ar) (Ac (T.g.J 9)) (UX (Nj (AH K mm AC)) (pC [32]) (Nj (AN (FZ T) i (pe (AH K mm AC))))))))),?_⟩;show T.E.J 0 B ?_;show T.E.J 1 B ?_;show AK (pq.J (H)) rfl ?_;show⟨r,_,rfl,by rw[<-I];exact pG.k (k:=pA m) (J),?_⟩;show⟨j,a,rfl,s,p,z,λv L M y=>?_⟩;have b:=q L M;have c:=λw l h=>Fn (a:=a) (show j.toNat<=4 by lia) (w:=w) (l:=l) h;generalize wy j.toNat a=o at*
 ext
 match o,y,c,b with
 |none,y,c,b=>
  cases(show v= .d from y)
  refine pK rfl ?_;ext;exact b
 |some (w,l),⟨Z,Q,G⟩,c,b=>
  subst Q;have e:l.length=a.length:=(c w l rfl).1;have R:(rS l).length=a.length:=by unfold rS;rw[az];exact e
  refine pL rfl ?_;ext;have S:=GD a l;refine BJ (pX.J G) rfl ?_;refine .inl ⟨chg a l,rfl,dE (show chg a l<=40 by lia) bg,_,rfl,?_,?_⟩
  .exact bw (DA 8 _ oZ) oZ
  show⟨_,rfl,by decide,?_⟩;show BJ (pX.J G) rfl ?_;show⟨_,rfl,by lia, .inr ⟨_,rfl,?_,_,rfl,?_,?_⟩⟩
  .exact bw (Fk (n:=40) oY oZ) oY
  .exact bw (Fk (n:=40) oY oZ) oY
  .exact b
def Qr:Ak P w K mg base (k+7) "say_more" ["desk","words"] (uk aE):=pJ.J (T.f.J 59) (pI ["desk","words","found"]) λu _ b h=>by
 obtain⟨d,s,r,L,t,c,a,h,q⟩:=h;obtain⟨rfl,o,n,m,B,G,i⟩:=h;have M:=b.J;have e:=Ay b;obtain⟨⟨Q,j⟩,H⟩:=id o;refine BU ⟨_,(AD (AO 2 (Aa (JW T) b BI (pk (AY K l') (A6 e (AY K l') (AH K ma AC))))) (AE (AJ (BR (AS Bm mm Ar) (Ac (T.g.J 9)) (BA Ck rfl (T.N 15) oR (pe mm)))))),?_⟩;show T.E.J 0 j ?_;show T.E.J 1 j ?_;show AK (pq.J B) rfl ?_;show⟨r,_,rfl,by rw[<-G];exact pG.k (k:=pA c) H,?_⟩;show Jt n m i (λl I J y=>?_);have z:=q l I J y;ext
 cases l with
 |nil=>
  refine pK rfl ?_;ext;exact z
 |cons x r=>
  have R:=((y.2.1 x).mp List.mem_cons_self).J;refine pL rfl ?_;ext;have S:=Ai i;have p:x=((x.toNat:Nat):Int):=by lia
  show vj [.a x] _ _;rw[p];refine Cr (dE (show x.toNat<=40 by lia) bg) ?_;exact z
def QV:Ak P w K mg base (k+1) "say_names" ["desk","words"] (rC aE):=pJ.J (T.f.J 60) (pI ["desk","words"]) λo H J h=>by
 obtain⟨d,m,r,k,a,c,rfl,hd,e,R,q⟩:=h;have Z:=J.J;have S:=Ay J;obtain⟨⟨u,L⟩,M⟩:=id hd;have U:=hd.Z;refine BU ⟨_,(AE (AJ (BR (BD K (AY K l')) (Ax K oO oW oV (HR K) (pC [32]) (pe (Aj (FQ K rfl) rfl (T.N 14) PyProof.Rows.boot_sorted (pe (AY K l'))))) (Ac (T.g.J 9))))),?_⟩;show T.E.J 1 L ?_;refine⟨_, .inr (.inr ⟨a,M,rfl⟩),?_⟩;obtain⟨l,hk,i,X,Y⟩:=id e;have b:c=[]↔a=[]:=by
  have j:=X.length_eq;have Q:=congrArg List.length hk;rw[az,az]at Q;unfold CP at j;rw[az]at j;rw[<-List.length_eq_zero_iff,<-List.length_eq_zero_iff,j,Q]
 by_cases z:a=[]
 .rw[List.isEmpty_iff.mpr z];refine pL rfl ?_;ext;have:=q H (pj.ap H);rw[vF,aU (b.mpr z)]at this;exact this
 .refine pK (by rw[Bool.not_eq_true',List.isEmpty_eq_false_iff];exact z) ?_;show T.E.J 1 L ?_;show⟨r,a,l,rfl, .inl M,hk,i,λp n x B G=>?_⟩;have I:=e.Z hk B G;subst I;rw[Fh];ext;have s:=e.J;have t:=GO R;refine Hr oY (pq.J AF) oZ ?_;have:=q _ (AL x (.a (c.map tx)));rw[vF,aP (λy=>z (b.mp y))]at this;exact this
def JT:yL P w K mg base (k+2) aE ["self"] (vh aE):=tG.m (T.m.J 5) T.E (pI ["self"]) λc H x h=>by
 obtain⟨d,i,rfl,a,q⟩:=h;have y:=x.J;refine⟨_,(AD (Cq K l' (Ac (T.g.J 10))) (AE (Cq K l' DS))),?_⟩;show⟨d,aE,i,[],rfl,a,T.E.a,(T.E.Z 0),by show 0<1000;decide,?_⟩;ext;intro r b;have j:H r=none:=by
  by_cases z:r=d
  .subst z;rw[AF]at b;cases b
  .rwa[AG z]at b
 have e:d≠r:=λz=>by rw[z,j]at a;cases a
 show⟨d,aE,i,_,rfl,by rw[AG e];exact AF,T.E.a,(T.E.Z 1),by show 1<1000;decide,?_⟩;show q r _ j (((FB.J _ _).tE b').new j|>.tE b') ⟨⟨i,?_⟩,?_⟩
 .rw[AF];rfl
 .rw[AG e.symm];exact AF
def Jo:Pd P w K mg base (k+9) aE "say" ["self","row"] (tO (DN cs aE) K cs aE):=tG.J (T.m.J 6) (pI ["self","row","words","word","part","deed"]) λnd H Q h=>by
 obtain⟨d,r,kk,ph,v,rfl,hd,h⟩:=h;have hu:=Q.J;have a0:=Ay Q;obtain⟨FK,a5,hF,_⟩:=T.F;obtain⟨DK,a6,S,B⟩:=T.D;obtain⟨⟨dx,e1⟩,e2⟩:=id hd;have a3:∀j:pW,∃A,pV P w K mg base (uB P w) (k+8) (S j) A ["desk","words"] (Ln ["desk","words"] (DN cs aE j))/\W.keepIn K (.ref (S j))=true/\Binds K A ["desk","words"] []:=by
  have o:∀ {x:Str} {sp:Sp} {a:Addr},xg P w K mg base (k+8) x ["desk","words"] sp->mg x=ae (.ref a)->∃A,pV P w K mg base (uB P w) (k+8) a A ["desk","words"] sp/\W.keepIn K (.ref a)=true/\Binds K A ["desk","words"] []:=λU hm=>by
   obtain⟨f,A,F1,e,kp,b⟩:=U.a;rw[hm]at e
   cases e
   exact⟨A,F1,kp,b⟩
  intro j
  cases j
  .exact o (QW T) (B .e).2
  .exact o (RY T) (B .k).2
  .exact o (Qn T) (B .g).2
  .exact o (QL T) (B .a).2
  .exact o (Qt T) (B .j).2
  .exact o (Qq T) (B .show).2
  .exact o (QU T) (B .d).2
  .exact o (Ra T) (B .l).2
  .exact o (Qs T) (B .i).2
  .exact o (RZ T) (B .nth).2
  .exact o (QJ T) (B .number).2
  .exact o (Qp T) (B .f).2
  .exact o (QK T) (B .b).2
  .exact o (Qr T) (B .h).2
  .exact o (QV T) (B .c).2
 refine⟨_,(AD (AO 2 (AN (QD T) Q (pe ma))) (AD (AV (AS Bm mm Ar) (AE (DR (T.c.J 11).2 (T.c.J 11).1 Q.a Dc (pe DI))) AW) (AD (BL PassesOwn.leaving rfl (Fm K rfl (T.N 17) (pk (A1 (A7 K) mm (A3 AC) A4) (IS P w K (Ac (T.g.J 15)) (AH K mm AC)))) (B2 (n:=2) K rfl (Ao (Ah 3) (Ao (Ah 4) Bh))) (AE (AV (PW.J (DW (AS (Af K hu) nt (pC [110,97,109,101])) (DU (Dw (ER a0 nc (AY K l')) dp)))) (AE (DR (T.c.J 10).2 (T.c.J 10).1 Q.a Dc (pe DI))) AW))) (AD (AO 5 (IS P w K (Ac (T.g.J 16)) (AH K mm AC))) (AE (AJ (V0 5 a3 Q A5 (pk l' (A1 (A7 K) mm (A3 AC) A4))))))))),?_⟩;ext;rcases h with⟨a1,X⟩|⟨l,dd,s,rfl,a2,hk,h⟩
 .refine .inr ⟨v,rfl,a1,λH1 Y=>?_⟩;show pK rfl ?_;ext;exact⟨small oY,λy Z=>X y H1 Y (Y.Z Z)⟩
 obtain⟨_,_,a7,_,_⟩:=YG hk;obtain⟨t,hv,hT⟩:=hF dd;refine .inl ⟨l,dd,s,rfl,a2,hk,λp H1 hp Y V=>?_⟩;show pL rfl ?_;show E3 (pq.J V) (λz hz=>?_);have ez:∀ (w0:gk) (ar:List gk),C7 ((w0::ar).map tx) (ae 1) none=ar.map tx:=λ_ _=>L7 _ _;rw[ez];have s2:=AL hz (.a (s.map tx));have C:(upd H1 z (.a (s.map tx))) z=ae (.a (s.map tx)):=AF;generalize upd H1 z _=H2 at*
 have J:=s2 _ _ V;have a8:=dd.ap;show AK (pq.J J) (Dh _ _) ?_;refine⟨aF,FK,pA dd.J,_,rfl,a5,rfl,hv,?_⟩;show⟨.l z, .t t,_,_,rfl,pq.J C,hT.J,?_⟩;refine YS (by rw[az,az];lia) (λi O H'=>∃o3 o4 o5,O=[ae (.b d),ae (tx l),ae (.b p),o3,o4,o5]/\pj H2 H'/\∀ (j:Nat) (a:gk),j<i->s[j]? =ae a->dd.Z[j]? =ae A0->(AT ph (pA a)).isSome=true) ⟨_,_,_,rfl,pj.ap _,λj a hj=>absurd hj (Nat.not_lt_zero j)⟩ (λi O H' ⟨o3,o4,o5,_,sH,_⟩=>⟨pq.J (sH _ _ C),hT.J⟩) ?_ ?_
 .rintro i c dv T' O H3 H4 R wz ⟨o3,o4,o5,rfl,L,G⟩ s4 a4;obtain⟨a,ha,rfl⟩:∃a,s[i]? =ae a/\tx a=c:=by
   rw[ao]at R;obtain⟨a,h1,h2⟩:=dj.mp R;exact⟨a,h1,h2⟩
  obtain⟨pp,σ,rfl⟩:∃a,dd.Z[i]? =ae a/\tx a=dv:=by
   rw[ao]at wz;obtain⟨a,h1,h2⟩:=dj.mp wz;exact⟨a,h1,h2⟩
  have I:pj H H4:=((Y.J s2).J L).J s4;refine DV (pX.J a4) rfl ?_;ext;have u:(pp=A0->(AT ph (pA a)).isSome=true)->∀ (j:Nat) (b:gk),j<i+1->s[j]? =ae b->dd.Z[j]? =ae A0->(AT ph (pA b)).isSome=true:=λhx j b hj hb hf=>by
   by_cases e:j=i
   .subst e;rw[ha]at hb;cases hb;rw[σ]at hf;cases hf;exact hx rfl
   .exact G j b oZ hb hf
  refine qu (λR=>?_) (λR=>?_)
  .subst R;show T.E.J 1 (I _ _ e1) ?_;refine⟨r,_,rfl,pG.k (k:=pA a) (I _ _ e2),?_⟩;ext
   cases e:AT ph (pA a)with
   |none=>
    refine pK rfl ?_;ext;rcases h with⟨_,_,_,_,_,X⟩|⟨Z,_⟩
    .exact⟨small oY,λy Z=>X y H4 I (I.Z Z)⟩
    .have:=Z i a ha σ;rw[e]at this;cases this
   |some v=>
    refine pL rfl ?_;ext;exact⟨_,_,_,rfl,L.J s4,u λ_=>by rw[e];rfl⟩
  .refine pL rfl ?_;ext;exact⟨_,_,_,rfl,L.J s4,u λe=>absurd e R⟩
 .intro O H3 z_;obtain⟨o3,o4,o5,rfl,L,G⟩:=z_;rw[az]at G;have I:pj H H3:=(Y.J s2).J L;rcases h with⟨i,a,ha,hf,hn,_⟩|⟨_,q⟩
  .have:=G i a (aR.mp ha).1 ha hf;rw[hn]at this;cases this
  show AK (pq.J (L _ _ J)) (Dh _ _) ?_;refine⟨aD,DK,pA dd.J,_,rfl,a6,rfl,(B dd).1,?_⟩;show Vf dd rfl ?_;show E3 (pq.J (L _ _ J)) (λz3 M=>?_);rw[ez];ext;exact q _ z3 _ (λc X=>X.J (I.J (AL M _))) (I.J (AL M _)) (I.Z M) AF
def QM:xo P w K mg base (k+1) aE "names" ["self"] (uI aE):=tG.u (T.m.J 7) (pI ["self"]) λn _ x h=>by
 obtain⟨d,r,k,g,f,rfl,l,hk,b,q⟩:=h;have B:=x.J;obtain⟨⟨G,y⟩,z⟩:=id l;refine⟨_,(AE (AJ (Aj (FQ K rfl) rfl (T.N 14) PyProof.Rows.boot_sorted (pe (AY K l'))))),?_⟩;show T.E.J 1 y ?_;show⟨r,g,f,rfl, .inl z,hk,b,λp c e i j=>?_⟩;obtain⟨a,rfl⟩:∃a,c=CP a:=⟨_,(MQ c).symm⟩;rw[Fh];exact q p a _ e (AL e _) AF ⟨f,hk,b,i,j⟩
def Jm:qp P w K mg base (k+1) "_law_pool" ["script","k"] (uh K):=pJ.u (T.f.J 61) (pI ["script","k","cell"]) λo _ e h=>by
 obtain⟨a,l,k,rfl,d,m,j,q⟩:=h;have x:=e.J;have n:∀ (g:Int),Ph 10 18:=λ_=>⟨by decide,by decide,by decide⟩;refine⟨_,(AD (AO 2 AC) (AD (AV (AS E7 ma (Al K (T.N 7) (pe l'))) (AE (AO 2 (AH K l' ma))) AW) (AE (AJ (Ad (pF mm (BA CV rfl (T.N 5) oP (pe (BP OX mm (AI Nn AC AC)))) (AI Bg AC ma))))))),?_⟩;show BN (.inl d) ?_;show qu (λc=>?_) (λc=>?_)
 .rw[az]at c;obtain⟨v,i⟩:=U6 (ns:=l) m c;show AK d i ?_;show⟨small (n:=3) oY,λp b=>?_⟩;exact q p _ b (AL b _) Po.ap
 .show⟨small (n:=3) oY,λp b=>?_⟩;exact q p _ b (AL b _) Po.ap
def Ag:qp P w K mg base (k+1) "_law_draw" ["pool","many"] (sC):=pJ.u (T.f.J 62) (pI ["pool","many","found","x"]) λg H i h=>by
 obtain⟨p,m,rfl,⟨a,b,c,e⟩,d,x,q⟩:=h;have y:=i.J;have G:pq K H p [.a a, .a b, .a c]:=pq.J e;refine⟨_,(AD (AV (AS (Af K y) (AH K l' AC) AC) (AD (AO 2 (AI Da (AH K l' AC) ma)) (AD (Bc (AI Ug (AH K l' AC) ma) (Cc l' AC Bf)) (AE (AJ mm)))) AW) (AD (Bc (AI AM (AH K l' AC) AC) (Cc l' AC Bf)) (AD (AO 3 (AI Da (AI AM (AI Da (AH K l' AC) AC) (AI Bg AC (AH K l' AC))) AC)) (AD (AO 3 (AI Da (AI Bg nc nc) AC)) (AD (AO 3 (AI Da (AI Bg (AI AM nc AC) nc) AC)) (AE (AJ (AI Da (AI Mp nc AC) ma)))))))),?_⟩;show qu (λz=>?_) (λz=>?_)
 .show Bj e (j:=0) rfl ?_;ext;exact q _ _ (Int.emod_nonneg _ oZ) (Int.emod_lt_of_pos _ d) Po.ap pf.ap
 .show Bj e (j:=2) rfl ?_;have B:pq K (upd H p (.a [.a a, .a b, .a (c+1)])) p [.a a, .a b, .a (c+1)]:=pq.J AF;ext;exact q _ _ (Int.emod_nonneg _ oZ) (Int.emod_lt_of_pos _ d) Po.ap pf.ap
def Py:qp P w K mg base (k+2) "_law_right_row" ["pool","k","pairs"] (LO):=pJ.u (T.f.J 63) (pI ["pool","k","pairs","row","left","waiting","kind"]) λnd H hr h=>by
 obtain⟨p,j,Y,rfl,hd,b3,a0,a5,b2,q⟩:=h;have hu:=hr.J;refine⟨_,(AD (AO 3 (pC [])) (AD (AO 4 mm) (AD (AO 5 (pC [])) (AD (HM oQ (PW.J (BX (AS Cf nt AC) (Ba (AS (CA K hu) nS (pC []))))) (AE (AV (PW.J (DW (AS Cf nt AC) (DU (PW.J (BX (AS (Af K hu) nS (pC [])) (Ba (AS (Af K hu) (AN (Ag T) hr (pk l' AC)) AC))))))) (AD (AO 6 (AN (Ag T) hr (pk l' ma))) (AD (AO 3 (AI AM nc (AH K (pC [40,91,123,60]) ov))) (AD (AO 5 (AI AM nS (AH K (pC [41,93,125,62]) ov))) (AE (AO 4 (AI Nl nt AC)))))) (AD (AO 3 (AI AM nc (AH K nS (Bo Bi AC)))) (AE (AO 5 (A1 (A7 K) nS A4 (A3 (Bo Bi AC))))))))) (AE (AJ nc)))))),?_⟩;show HD (λa t=>∃ (b:Int) (row wt:gk) (Z:Option V),a=[ae (.b p),ae (.a j),ae (.a Y),ae (tx row),ae (.a b),ae (tx wt),Z]/\
  0<=b/\run [] row=ae wt.reverse/\(∀c∈row,sO j c)/\(∀c∈wt,c∈cls.take j.toNat/\c∉qP)/\(row.length:Int)+wt.length+2*b=2*Y/\Po t p/\pf p H t)
  (λa _=>2*v0 (a.getD 4 none)+v0 (a.getD 5 none)) ⟨Y,[],[],none,rfl,a5,rfl,(λ_ z=>nomatch z),(λ_ z=>nomatch z),by simp,hd,pf.mp _ _⟩ ?_
 .intro a H5 z_;obtain⟨b,row,wt,Z,rfl,a3,x,B,v,r,G,O⟩:=z_;have b0:row.length<=40:=by lia
  have b1:wt.length<=40:=by lia
  refine Ue (c:=decide (0<b)) (d:= !decide (wt=[])) (λR h=>by ext;exact h) (λR h=>by ext;exact h) ?_;refine PQ (λI=>?_) (λI=>?_)
  .have a9:wt.length=0->wt=[]:=List.length_eq_zero_iff.mp;have a4:0<b\/wt≠[]:=by simpa using I
   refine HE ?_;have J:∀ {g:Hp},Po g p->pf p H g->0<b->∀ (l:Int) (N:Hp),Po N p->pf p g N->0<=l->l<j->∀y,y∈qP->y∈qP.take j.toNat->qQ y∈cls.take j.toNat->qQ y∉qP->
    WN (λa t=>∃ (b:Int) (row wt:gk) (Z:Option V),a=[ae (.b p),ae (.a j),ae (.a Y),ae (tx row),ae (.a b),ae (tx wt),Z]/\
   0<=b/\run [] row=ae wt.reverse/\(∀c∈row,sO j c)/\(∀c∈wt,c∈cls.take j.toNat/\c∉qP)/\(row.length:Int)+wt.length+2*b=2*Y/\Po t p/\pf p H t) (λa _=>2*v0 (a.getD 4 none)+v0 (a.getD 5 none)) (2*b.toNat+wt.length) [ae (.b p),ae (.a j),ae (.a Y),ae (tx (row++[y])),ae (.a (b-1)),ae (tx (wt++[qQ y])),ae (.a l)] N:=by
    intro g s o L l N d7 s7 E D y M Q S U;refine⟨⟨b-1,row++[y],wt++[qQ y],_,rfl,by lia,?_,?_,?_,?_,d7,o.J s7⟩,?_⟩
    .rw[HJ x,FU M,List.reverse_append];rfl
    .intro c I;rcases cS.mp I with z|z
     .exact B c z
     .rw[aS.mp z];exact .inl Q
    .intro c I;rcases cS.mp I with z|z
     .exact v c z
     .rw[aS.mp z];exact⟨S,U⟩
    .simp only[aN,hH];lia
    .show 2*(b-1).toNat+(wt++[qQ y]).toArray.size<2*b.toNat+wt.length;simp only[List.size_toArray,aN,hH];lia
   have X:∀ {g:Hp} (Z:Option V),Po g p->pf p H g->∀e i,wt=i++[e]->
    WN (λa t=>∃ (b:Int) (row wt:gk) (Z:Option V),a=[ae (.b p),ae (.a j),ae (.a Y),ae (tx row),ae (.a b),ae (tx wt),Z]/\
   0<=b/\run [] row=ae wt.reverse/\(∀c∈row,sO j c)/\(∀c∈wt,c∈cls.take j.toNat/\c∉qP)/\(row.length:Int)+wt.length+2*b=2*Y/\Po t p/\pf p H t) (λa _=>2*v0 (a.getD 4 none)+v0 (a.getD 5 none)) (2*b.toNat+wt.length) [ae (.b p),ae (.a j),ae (.a Y),ae (tx (row++[e])),ae (.a b),ae (tx i),Z] g:=by
    intro g Z s o e i n;subst n;obtain⟨a7,a6⟩:=v e (List.mem_append_right _ List.mem_cons_self);rw[List.reverse_append]at x;refine⟨⟨b,row++[e],i,_,rfl,a3,?_,?_,λc I=>v c (List.mem_append_left _ I),?_,s,o⟩,?_⟩
    .rw[HJ x];exact Gv a6 _
    .intro c I;rcases cS.mp I with z|z
     .exact B c z
     .rw[aS.mp z];exact .inr a7
    .simp only[aN,hH]at r⊢;lia
    .show 2*b.toNat+i.toArray.size<2*b.toNat+(i++[e]).length;simp only[List.size_toArray,aN,hH];lia
   show qu (λL=>?_) (λL=>?_)
   .show qu (λm=>?_) (λm=>?_)
    .refine CQ ?_;show Ae G oZ oZ (λr1 g E D s o=>?_);obtain⟨y,C,M,Q,A,S,U⟩:=Nk E D a0;show BS (small (n:=4) oY) C ?_;show BS (small (n:=4) oY) A ?_;ext;exact J G O L _ g s o E D y M Q S U
    .show Ae G oY oY (λr1 g a1 a2 s o=>?_);show qu (λh2=>?_) (λh2=>?_)
     .show Ae s oZ oZ (λr1 N E D d7 s7=>?_);obtain⟨y,C,M,Q,A,S,U⟩:=Nk E D a0;show BS (small (n:=4) oY) C ?_;show BS (small (n:=4) oY) A ?_;ext;exact J s (O.J o) L _ N d7 s7 E D y M Q S U
     .obtain⟨i,e,n⟩:=Ka m;show BS (small oZ) (show pY wt (-1)=ae e by rw[n];exact MD i e) ?_;ext
      first|refine Il (small oZ) ?_ |skip
      rw[show Aq wt none (ae (-1))=i by rw[n];exact L9 i e];ext;exact X _ s (O.J o) e i n
   .have m:wt≠[]:=by
     rcases a4 with z|z
     .exact absurd z L
     .exact z
    obtain⟨i,e,n⟩:=Ka m;refine pL rfl ?_;show BS (small oZ) (show pY wt (-1)=ae e by rw[n];exact MD i e) ?_;ext
    first|refine Il (small oZ) ?_ |skip
    rw[show Aq wt none (ae (-1))=i by rw[n];exact L9 i e];ext;exact X _ G O e i n
  .have a8:b<=0/\wt=[]:=by simpa using I
   obtain⟨e1,rfl⟩:=a8;ext;exact q row H5 x (by simp at r;lia) B G O
def Ge:qp P w K mg base (k+1) "_law_signs" ["k"] (LL):=pJ.u (T.f.J 64) (pI ["k"]) λa _ d h=>by
 obtain⟨b,rfl,g,c,q⟩:=h;have e:=d.J;refine⟨_,(AE (AJ (AI AM (A1 (A7 K) (pC [40,91,123,60]) A4 (A3 l')) (A1 (A7 K) (pC [41,93,125,62]) A4 (A3 l'))))),?_⟩;ext;rw[Bn _ oZ,Bn _ oZ];have i:([40,91,123,60].take b.toNat).length<=4:=by rw[cU];simp;lia
 have j:([41,93,125,62].take b.toNat).length<=4:=by rw[cU];simp;lia
 first|refine BO (small oZ) ?_ |skip
 ext;exact q
def Q2:qp P w K mg base (k+2) "_law_bent" ["pool","k","row","often"] (MV):=pJ.u (T.f.J 65) (pI ["pool","k","row","often","found","sign","at"]) @λ_ _ _ _ _ _ Q _ nd H y h=>by
 obtain⟨p,r,row,L,rfl,hp,k1,k4,M,o0,o1,q⟩:=h;have σ:=y.J;have hl:=Ai M;refine⟨_,(AD (AO 4 (pC [])) (AD (BL oQ rfl (Cb mm) (Ah 5) (AE (AO 4 (AI AM nt (AH K (Ad (pk nS (pC [63]))) (BA CV rfl (T.N 5) oP (pe (Er (BP Cf nc AC) (DY (BP (Af K σ) (AN (Ag T) y (pk l' nc)) AC)))))))))) (AD (AV (PW.J (DW (AS (CA K σ) nt (pC [])) (DU (AS (Af K σ) (AN (Ag T) y (pk l' AC)) AC)))) (AD (AO 6 (AN (Ag T) y (pk l' (Al K (T.N 7) (pe nt))))) (AE (AO 4 (AI AM (AI AM (A1 (A7 K) nt A4 (A3 ov)) (AH K (AI AM (AN (Ge T) y (pe ma)) (pC [63])) (AN (Ag T) y (pk l' (AI AM (AI Bg AC ma) AC))))) (A1 (A7 K) nt (A3 (AI AM ov AC)) A4))))) AW) (AD (AV (AS (Af K σ) (AN (Ag T) y (pk l' AC)) AC) (AE (AO 4 (A1 (A7 K) nt A4 (A3 (AN (Ag T) y (pk l' (AI AM (Al K (T.N 7) (pe nt)) AC))))))) AW) (AE (AJ nt)))))),?_⟩;ext;have a5:=DP M;have R:(63:Nat)∈sgn r:=List.mem_append_right _ List.mem_cons_self;refine Ls (λi O H'=>∃ (f:gk) (E B:Option V),O=[ae (.b p),ae (.a r),ae (tx row),ae (.a L),ae (tx f),E,B]/\f.length=i/\(∀c∈f,c∈sgn r)/\Po H' p/\pf p H H') ⟨[],_,_,rfl,rfl,(λ_ z=>nomatch z),hp,pf.mp _ _⟩ ?_ ?_
 .intro i c O S G z_;obtain⟨f,E,B,rfl,hf,b,e,U⟩:=z_;have hi:i<row.length:=(aR.mp G).1;have a7:=a5 c (cE G);show⟨small (n:=2) oY,λl X=>?_⟩;have t1:=AL X (.a [tx [c],tx [63]]);have g1:=AF (H:=S) (a:=l) (o:= .a [tx [c],tx [63]]);have n1:=e.Z X;have p1:=e.J t1;have u1:pf p H (upd S l (.a [tx [c],tx [63]])):=U.J (pf.Z t1);generalize upd S l _=G1 at*
  have m1:∀x∈f++[c],x∈sgn r:=λx hx=>(cS.mp hx).elim (b x) λz=>by rw[aS.mp z];exact a7
  have m2:∀x∈f++[63],x∈sgn r:=λx hx=>(cS.mp hx).elim (b x) λz=>by rw[aS.mp z];exact R
  have Y:f.length+[c].length<=1000:=by rw[hH];lia
  have a3:f.length+[63].length<=1000:=by rw[hH];lia
  show qu (λa4=>?_) (λa4=>?_)
  .show Ae p1 oZ oZ (λr2 s _ _ I j=>?_);have g2:=j _ _ g1 n1;ext
   by_cases Z:r2=0
   .rw[be Z];show AK (pq.J g2) (show pY [tx [c],tx [63]] (if true=true then 1 else 0)=ae (tx [63])from rfl) ?_;refine BO (small a3) ?_;ext;exact⟨f++[63],_,_,rfl,by simp[hf],m2,I,u1.J j⟩
   .rw[ba Z];show AK (pq.J g2) (show pY [tx [c],tx [63]] (if false=true then 1 else 0)=ae (tx [c])from rfl) ?_;refine BO (small Y) ?_;ext;exact⟨f++[c],_,_,rfl,by simp[hf],m1,I,u1.J j⟩
  .show AK (pq.J g1) (show pY [tx [c],tx [63]] (if false=true then 1 else 0)=ae (tx [c])from rfl) ?_;refine BO (small Y) ?_;ext;exact⟨f++[c],_,_,rfl,by simp[hf],m1,p1,u1⟩
 .intro O S z_;obtain⟨f,E,B,rfl,hf,b,e,U⟩:=z_;have n:∀ (g:gk) (s:Hp) (B:Option V),g.length<=row.length->(∀c∈g,c∈sgn r)->Po s p->pf p H s->
   (FA (EB (D5 (uc (FF K) (D6 (Ln ["pool","many"] sC) [] E0 (CB (Bx 0) (CB (tC (V.a 2)) rj))) (tC (V.a 0))))
     (CN (yt (GU K) (Bx 4) sv (Ii (D6 (Ln ["pool","many"] sC) [] E0 (CB (Bx 0) (CB (uc tj (xt (FD K) (CB (Bx 4) rj)) (tC (V.a 1))) rj))))) (BK 4)) ud) (JD (Bx 4)))
   {nx:=λx H'=>Q V.d H',a:=Q} [ae (.b p),ae (.a r),ae (tx row),ae (.a L),ae (tx g),E,B] s:=by
   intro g s B hg A I j;have a8:g.length<=40:=by lia
   show Ae I oY oY (λr3 H3 _ _ D C=>?_);show qu (λh3=>?_) (λh3=>?_)
   .show Ae D oZ oZ (λr4 H4 J a2 p4 s4=>?_);ext;rw[Bn _ J];have hz:(g.take r4.toNat).length<=g.length:=by rw[cU];lia
    exact q _ H4 oZ (Ea oZ λc G=>A c (fR G)) p4 ((j.J C).J s4)
   .ext;exact q _ H3 hg (Ea oZ A) D (j.J C)
  have a9:f.length<=40:=by lia
  show PQ (λv=>?_) (λv=>?_)
  rotate_left
  .refine pL rfl ?_;exact n f S B oZ b e U
  show Ae e oY oY (λr2 s _ _ I j=>?_);show qu (λh2=>?_) (λh2=>?_)
  rotate_left
  .exact n f s B oZ b I (U.J j)
  have t:f≠[]:=by simpa using v
  have b2:0<f.length:=List.length_pos_iff.mpr t;show Ae I oZ oZ (λat0 H3 a0 a1 D C=>?_);show Gj k1 k4 ?_;have sl:=Hq k1 k4;ext
  first|refine BO (small (by rw[hH];lia)) ?_ |skip
  show Ae D oZ oZ (λr4 H4 J a2 p4 s4=>?_);obtain⟨d,ed,hd⟩:=Ew (l:=vz r++[63]) (i:=r4) J (by rw[aN,hH,sl];lia);have a6:d∈sgn r:=(cS.mp hd).elim Ho λz=>by rw[aS.mp z];exact R
  show BS (small (by rw[aN,hH];lia)) ed ?_;obtain⟨m,rfl⟩:∃m:Nat,at0=m:=⟨at0.toNat,by lia⟩;have ea:((m:Int)+1)=((m+1:Nat):Int):=by lia
  rw[Bn _ oZ,fb];have b1:(f.take m).length=m:=by rw[cU];lia
  have b0:(f.drop (m+1)).length=f.length-m-1:=by rw[List.length_drop];lia
  refine BO (small (by rw[hH];lia)) ?_;ext;rw[ea,Ec];refine BO (small (by rw[aN,hH];lia)) ?_;refine n (f.take m++[d]++f.drop (m+1)) H4 _ (by simp only[aN,hH];lia) (λc G=>?_) p4 ((U.J j).J (C.J s4));simp only[cS,aS]at G;rcases G with(z|z)|z
  .exact b c (fR z)
  .rw[z];exact a6
  .exact b c (List.mem_of_mem_drop z)
def Q0:qp P w K mg base (k+3) "_law_line" ["pool","k","most"] (MS):=pJ.u (T.f.J 66) (pI ["pool","k","most","way","signs","half","pairs"]) λnd H x h=>by
 obtain⟨p,r,m,rfl,hp,k1,k4,m1,d1,q⟩:=h;have hu:=x.J;have a5:(63:Nat)∈sgn r:=List.mem_append_right _ List.mem_cons_self;refine⟨_,(AD (AO 3 (AN (Ag T) x (pk l' AC))) (AD (AV (AS (Af K hu) nc AC) (AD (Cu (i:=4) nd rfl (Or.inr rfl) (AI AM (AN (Ge T) x (pe ma)) (pC [63,63,63]))) (AE (AJ (Ax K oO oW oV (Dt K) (pC []) (pe (BE (own:=["sign"]) (sel:=[4,0,1]) (A9 (osc:=(AX (top 109))) (N:=["pool","k","most","way","signs","half","pairs"]) bg) rfl (CI rfl (T.N 11) (pe (AN (Ag T) x (pk l' (AI AM mm AC))))) (λ_ _ _ _ _=>(Am (i:=0) (show(["sign","signs","pool","k"]:hE).Nodup from by decide +kernel) rfl (lY rfl))) (Av oY) (λ_ _ _ _ _=>BC) (λ_ _ _ _ _=>(AH K ma (AN (Ag T) x (pk mm (AI AM (AI Bg AC nc) AC))))))))))) AW) (AD (AV (AS (Af K hu) nc AC) (AE (AJ (AI Bg (pC [63]) (AN (Ag T) x (pk l' (AI AM mm AC)))))) AW) (AD (AO 5 (AI Mp mm AC)) (AD (AO 6 (AH K (Ad (pF (AN (Ag T) x (pk l' (AI AM nS AC))) (AN (Ag T) x (pk l' (Aj (HA rfl) rfl (T.N 10) PyProof.Rows.boot_min (pk AC (AI AM nS AC))))) nS)) (AN (Ag T) x (pk l' AC)))) (AE (AJ (AN (Q2 T) x (AA l' (pF ma (AN (Py T) x (pF l' ma ov)) (AH K (Ad (AA AC (AA AC (AA AC (pF AC AC AC))))) (AN (Ag T) x (pk l' AC))))))))))))),?_⟩;show Ae hp oY oY (λb8 H1 w0 w1 p1 X=>?_);show qu (λhw=>?_) (λhw=>?_)
 .show Gj k1 k4 ?_;have sl:=Hq k1 k4;ext
  first|refine BO (small (by simp only[aJ,List.length_nil];lia)) ?_ |skip
  show Ae p1 oZ oZ (λn H2 n0 n1 B G=>?_);refine⟨n,rfl,by lia,by lia,?_⟩;have sg:∀c∈vz r++[63,63,63],c∈sgn r:=λc hc=>(cS.mp hc).elim Ho λz=>by
   simp only[List.mem_cons,List.not_mem_nil,or_false,or_self]at z;rw[z];exact a5
  have I:(vz r++[63,63,63]).length=(2*r).toNat+3:=by rw[aN,sl];rfl
  generalize vz r++[63,63,63]=a0 at sg I⊢;refine Ha (n:=n.toNat) (small oZ) (λD j ys H'=>∃cs:gk,ys=(cs.map λc=>[c]).map tx/\cs.length=j/\(∀c∈cs,c∈sgn r)/\D≠p/\Po H' p/\pf p H H') (λD J=>⟨[],rfl,rfl,(λ_ z=>nomatch z),B.Z J,B.J (AL J _),Zs (X.J G) (by
   cases e:H D with
   |none=>rfl
   |some o=>
    have:=(X.J G) _ _ e (B.Z J);rw[J]at this;cases this)⟩) (λD ys Q J hy ⟨cs,ey,Y,L,y,R,Z⟩=>?_) ?_
  .subst ey;show Dv (pq.J hy) (by rw[Eb,az];lia) ?_;rw[Eb];exact q cs Q oZ (Ea oZ L) R Z
  .intro D j ys Q J hj hy hl z_;obtain⟨cs,rfl,Y,L,y,R,Z⟩:=z_;show CQ ?_;show Ae R oZ oZ (λr4 H4 a4 c1 p4 s4=>?_);obtain⟨d,ed,hd⟩:=Ew (l:=a0) (i:=r4) a4 (by rw[I];lia);show BS (small (by rw[I];lia)) ed ?_;refine B8 hj (small oZ) (s4 _ _ hy y) hl ⟨cs++[d],by simp,by simp[Y],λc hc=>(cS.mp hc).elim (L c) λz=>by rw[aS.mp z];exact sg d hd,y,?_,λb o z zn=>?_⟩
   .obtain⟨a,b,c,e⟩:=p4;exact⟨a,b,c,by rw[AG (Ne.symm y)];exact e⟩
   .have b4:b≠D:=λe=>by
     have:=(X.J G) _ _ z zn;rw[e,J]at this;cases this
    rw[AG b4];exact s4 b o (Z b o z zn) zn
 show qu (λa9=>?_) (λa9=>?_)
 .show Ae p1 oZ oZ (λn H2 n0 n1 B G=>?_);show XA n0 oZ oY ?_;ext;rw[Xm];exact q _ H2 (by rw[List.length_replicate];lia) (Ss oZ) B (X.J G)
 ext;have b3:0<=m/2:=by lia
 have b2:m/2<=20:=by lia
 have b1:2*(m/2)<=m:=by lia
 generalize m/2=g at b3 b2 b1⊢;refine Ae p1 oZ oZ (λS H2 c5 c4 B G=>?_);ext;obtain⟨t,b7,d0,c9,c8⟩:∃t:Int,(if g+1<5 then g+1 else 5)=t/\1<=t/\t<=g+1/\t<=5:=⟨_,rfl,by split<;>lia,by split<;>lia,by split<;>lia⟩
 try rw[b7]
 refine Ae B oZ oZ (λU Q c3 c2 R Z=>?_);show⟨small (n:=3) oY,λl hl=>?_⟩;have t4:=AL hl (.a [.a S, .a U, .a g]);have g4:=AF (H:=Q) (a:=l) (o:= .a [.a S, .a U, .a g]);have n4:=R.Z hl;have p4:=R.J t4;have u4:pf p H (upd Q l (.a [.a S, .a U, .a g])):=((X.J G).J Z).J (pf.Z t4);generalize upd Q l _=G4 at*
 show Ae p4 oY oY (λr5 H5 a3 a2 p5 s5=>?_);obtain⟨O,b5,a6,c6⟩:∃O:Int,pY [V.a S,V.a U,V.a g] r5=ae (.a O)/\0<=O/\O<=g:=by
  obtain⟨v,e,h⟩:=zE (V.a S) (V.a U) (V.a g) a3 a2;rcases h with rfl|rfl|rfl
  .exact⟨S,e,by lia,by lia⟩
  .exact⟨U,e,by lia,by lia⟩
  .exact⟨g,e,by lia,by lia⟩
 show AK (pq.J (s5 _ _ g4 n4)) b5 ?_;show RS p5 k1 k4 a6 oZ (λa1 H6 hR d2 E p6 s6=>?_);have b0:AR r a1=true:=Up (kk:=r) oZ oZ E;show⟨small (n:=6) oY,λl7 C=>?_⟩;have t7:=AL C (.a [.a 0, .a 2, .a 3, .a 5, .a 9, .a 1]);have g7:=AF (H:=H6) (a:=l7) (o:= .a [.a 0, .a 2, .a 3, .a 5, .a 9, .a 1]);have n7:=p6.Z C;have p7:=p6.J t7;have u7:pf p H (upd H6 l7 (.a [.a 0, .a 2, .a 3, .a 5, .a 9, .a 1])):=(u4.J (s5.J s6)).J (pf.Z t7);generalize upd H6 l7 _=G7 at*
 show Ae p7 oY oY (λM H8 c0 b9 p8 s8=>?_);obtain⟨c7,b6,a8,a7⟩:∃o:Int,pY [V.a 0,V.a 2,V.a 3,V.a 5,V.a 9,V.a 1] M=ae (.a o)/\0<=o/\o<=1000:=by
  have:M=0\/M=1\/M=2\/M=3\/M=4\/M=5:=by lia
  rcases this with rfl|rfl|rfl|rfl|rfl|rfl
  .exact⟨0,rfl,by decide,by decide⟩
  .exact⟨2,rfl,by decide,by decide⟩
  .exact⟨3,rfl,by decide,by decide⟩
  .exact⟨5,rfl,by decide,by decide⟩
  .exact⟨9,rfl,by decide,by decide⟩
  .exact⟨1,rfl,by decide,by decide⟩
 show AK (pq.J (s8 _ _ g7 n7)) b6 ?_;show Tg p8 k1 k4 b0 a8 a7 (λs H9 d3 A p9 s9=>?_);exact q s H9 oZ A p9 (u7.J (s8.J s9))
def Qz:qp P w K mg base (k+10) "_law_said" ["desk","row"] (ug (DN cs aE) K cs aE):=pJ.u (T.f.J 67) (pI ["desk","row","caught","found","e","kinds"]) λnd H hr h=>by
 obtain⟨d,r,kk,ph,v,rfl,hd,h⟩:=h;have hu:=hr.J;obtain⟨⟨dx,e1⟩,e2⟩:=id hd;have g:∀C O,qR cs C O->qm K C:=λC O h=>by
  cases h
  .exact(T.c.J 11).2
  .exact(T.c.J 10).2
  .exact(T.c.J 1).2
  .exact(T.c.J 2).2
  .exact(T.c.J 5).2
  .exact(T.c.J 3).2
  .exact(T.c.J 8).2
 refine⟨_,(AD (AO 2 Ar) (AD (AO 3 (pC [])) (AD (Nd (i:=4) (T.c.J 0).2 (T.c.J 0).1 ⟨rfl,rfl,rfl⟩ nd rfl rfl (λpn xe R U=>(AE (AO 3 (Ml T.E.a (Jo T) hr U l' (pe ma))))) (λev=>(AE (AO 2 nt)))) (AD (AV (AS Bm mm Ar) (AE (AJ (AH K (Ad (pk nc (pC [111,100,100]))) (BA CV rfl (T.N 5) oP (pe (OV (Nh (Aj (Dr K) rfl (T.N 6) oM (pk nc (D8 (T.N 15) oR)))) (DY (BP (Af K hu) (A1 (A7 K) nc A4 (A3 AC)) (pC [9]))))))))) AW) (AD (AO 5 (Ad (pF (Aj (B1 K) rfl (T.N 6) oM (pk mm (Bp (T.c.J 11).1))) (Aj (B1 K) rfl (T.N 6) oM (pk mm (Bp (T.c.J 10).1))) (Aj (B1 K) rfl (T.N 6) oM (pk mm (Bp (T.c.J 1).1)))))) (AD (AO 5 (AI AM nS (Ad (pF (Aj (B1 K) rfl (T.N 6) oM (pk mm (Bp (T.c.J 2).1))) (Aj (B1 K) rfl (T.N 6) oM (pk mm (Bp (T.c.J 5).1))) (Aj (B1 K) rfl (T.N 6) oM (pk mm (Bp (T.c.J 3).1))))))) (AD (Au (Ax K oN oU oS B7 nS (pe (Aj (B1 K) rfl (T.N 6) oM (pk mm (Bp (T.c.J 8).1)))))) (AD (AV (PW.J (BX (BD K (Aj (B1 K) rfl (T.N 6) oM (pk mm (Az (AA (Bp (T.c.J 7).1) (pF (Bp (T.c.J 4).1) (Bp (T.c.J 6).1) (Bp (T.c.J 9).1))))))) (Ba (Bb (BD K (Aj (B1 K) rfl (T.N 6) oM (pk mm (D8 (T.N 0) P7)))))))) (AE (AJ (pC [111,100,100]))) AW) (AD (AV (AS (CA K hu) (Ax K oN PySem.F.slot_list_count PySem.F.type_list_count Si nS (pe Cz)) AC) (AE (AJ (pC [111,100,100]))) AW) (AE (AJ (AI AM (pC [9]) (AH K (Ad (AA (pC [78,111,82,111,119]) (AA (pC [78,111,78,97,109,101]) (AA (pC [78,111,75,105,110,100,115]) (AA (pC [78,111,76,105,110,101]) (pF (pC [78,111,78,117,109,98,101,114]) (pC [78,111,116,82,105,103,104,116]) (pC [78,111,70,105,108,108,105,110,103]))))))) (Ax K oN PySem.F.slot_list_index PySem.F.type_list_index Km nS (pe Cz))))))))))))))),?_⟩;show⟨d,dx,_,rfl,e1,rfl,?_⟩;show h _ _ (λb H1 hb h9 q=>?_) (λC O hC q=>?_)
 .show pK rfl ?_;show⟨small (n:=2) oY,λy hy=>?_⟩;show Bw (b:=true) (pQ.b _) dp ?_;ext;clear g;refine pL rfl ?_;ext;have a2:¬ (Aq b none (ae 1)=[9]):=λz=>by
   rw[Bn _ oY]at z
   cases b with
   |nil=>cases z
   |cons x r=>exact h9 (by rw[(List.cons.inj z).1];rfl)
  rw[ba a2];show AK (pq.J AF) (show pY [tx b,tx [111,100,100]] (if false=true then 1 else 0)=ae (tx b)from rfl) ?_;exact q _ (AL hy _)
 .have Z:=g C O hC;obtain⟨B,I,J,L,M,Q,b7,j,wd,mr,k1,k2,k3,k4,k5,k6,k7,ka,kv,hc,hj,hm,hw,rfl,a4⟩:=K3 T.t hC;refine Na λy G sG hy=>⟨mr,λD=>?_⟩;have s1:pj H (upd G y (BM D y C)):=LX sG hy;have U:(upd G y (BM D y C)) y=ae (BM D y C):=AF;generalize upd G y _=G1 at*
  ext;clear g h;refine Kb ?_;show pL rfl ?_;show CK U Z k1 ?_;show CK U Z k2 ?_;show CK U Z k3 ?_;show⟨small (n:=3) oY,λl1 s=>?_⟩;have A:=AL s (.a [.c B, .c I, .c J]);have g1:=AF (H:=G1) (a:=l1) (o:= .a [.c B, .c I, .c J]);generalize upd G1 l1 _=G2 at*
  have e:=A _ _ U;show CK e Z k4 ?_;show CK e Z k5 ?_;show CK e Z k6 ?_;show⟨small (n:=3) oY,λl2 p=>?_⟩;have m:=AL p (.a [.c L, .c M, .c Q]);have g2:=AF (H:=G2) (a:=l2) (o:= .a [.c L, .c M, .c Q]);generalize upd G2 l2 _=G3 at*
  show Em (m _ _ g1) g2 (small (n:=6) oY) (λl S=>?_);have t3:=AL S (.a ([.c B, .c I, .c J]++[.c L, .c M, .c Q]));have g3:(upd G3 l (.a ([.c B, .c I, .c J]++[.c L, .c M, .c Q]))) l=ae (.a [.c B, .c I, .c J, .c L, .c M, .c Q]):=AF;have n3:H l=none:=s1.Z (A.Z (m.Z S));have s3:pj H (upd G3 l (.a ([.c B, .c I, .c J]++[.c L, .c M, .c Q]))):=((s1.J A).J m).J t3;have X:=t3 _ _ (m _ _ e);generalize upd G3 l _=G4 at*
  have a0:y≠l:=AQ (m _ _ e) S;clear A m t3 g1 g2 U e s p S s1 sG;show⟨pq.Z (pq.J g3),?_⟩;show CK X Z k7 ?_;show⟨l,_,_,rfl,rfl,g3,B5 (show 6<=1000 by decide),?_⟩;have t4:pj H (upd G4 l (.a ([.c B, .c I, .c J, .c L, .c M, .c Q]++[.c b7]))):=λb o z=>by rw[AG (AQ z n3)];exact s3 b o z
  have g4:(upd G4 l (.a ([.c B, .c I, .c J, .c L, .c M, .c Q]++[.c b7]))) l=ae (.a ([B,I,J,L,M,Q,b7].map V.c)):=AF;have n:(upd G4 l (.a ([.c B, .c I, .c J, .c L, .c M, .c Q]++[.c b7]))) y=ae (BM D y C):=by rw[AG a0];exact X
  generalize upd G4 l _=G5 at*
  clear s3 g3 X;show⟨small (n:=4) oY,λtp a1=>?_⟩;have Y:=AL a1 (.b ([cs.i,cs.k,cs.f,cs.j].map V.b));show XI (cs:=[cs.i,cs.k,cs.f,cs.j]) (Y _ _ n) Z AF ka ?_;show pL rfl ?_;show XJ (Y _ _ n) Z kv ?_;show pL rfl ?_;show⟨pq.Z (pq.J (Y _ _ g4)),?_⟩;show⟨l,_,_,rfl,rfl,Y _ _ g4,?_⟩;rw[hc];show pL rfl ?_;show⟨small (n:=7) oY,λl6 a3=>?_⟩;have t6:=AL a3 (.a [tx [78,111,82,111,119],tx [78,111,78,97,109,101],tx [78,111,75,105,110,100,115],tx [78,111,76,105,110,101],tx [78,111,78,117,109,98,101,114],tx [78,111,116,82,105,103,104,116],tx [78,111,70,105,108,108,105,110,103]]);show⟨pq.Z (pq.J (t6 _ _ (Y _ _ g4))),?_⟩;show⟨l,_,_,j,rfl,rfl,t6 _ _ (Y _ _ g4),hj,hm,by simp,?_⟩;refine AK (pq.J AF) hw ?_;refine BO (small (by simp only[aJ,List.length_nil];lia)) ?_;exact q _ ((t4.J Y).J t6)
def QY:qp P w K mg base (k+2) "_law_names" ["pool"] (SE):=pJ.u (T.f.J 68) (pI ["pool","letters","word","at","letter","more","whole","found","one"]) λnd H hr h=>by
 obtain⟨p,rfl,po,q⟩:=h;have R:=hr.J;refine⟨_,(AD (Cu (i:=1) nd rfl (Or.inr rfl) (OU (l:=uP) bg)) (AD (AO 2 (Ax K oO oW oV (Dt K) (pC []) (pe (BE (own:=["k"]) (sel:=[1,0]) (A9 (osc:=(AX (top 111))) (N:=["pool","letters","word","at","letter","more","whole","found","one"]) bg) rfl (CI rfl (T.N 11) (pe (AI AM AC (AN (Ag T) hr (pk l' AC))))) (λ_ _ _ _ _=>(Am (i:=0) (show(["k","letters","pool"]:hE).Nodup from by decide +kernel) rfl (lY rfl))) (Av oY) (λ_ _ _ _ _=>BC) (λ_ _ _ _ _=>(AH K ma (AN (Ag T) hr (pk mm AC)))))))) (AD (AO 3 (AN (Ag T) hr (pk l' (Al K (T.N 7) (pe mm))))) (AD (AO 4 (AH K ma (AN (Ag T) hr (pk l' AC)))) (AD (AO 5 (Ad (AA mm (pF (AI AM mm nt) (AI AM nt mm) (AI AM (AI AM (A1 (A7 K) mm A4 (A3 nc)) nt) (A1 (A7 K) mm (A3 (AI AM nc AC)) A4)))))) (AD (Au (Ax K oN oU oS B7 nS (pe (AH K (Ad (AA (pC [110,111,110,101]) (AA (pC [114,111,119]) (AA (pC [110,97,109,101,115]) (AA (pC [115,104,111,119]) (AA (pC [116,117,114,110]) (pF (pC [107,105,110,100,115]) (pC [100,114,111,112]) (pC [109,97,110,121])))))))) (AN (Ag T) hr (pk l' AC)))))) (AD (AV (AS (Af K R) (AN (Ag T) hr (pk l' AC)) AC) (AD (AO 6 (AI AM (AI AM mm nt) (pC [98]))) (AE (AO 5 (Ad (AA (A1 (A7 K) ov A4 (A3 AC)) (AA (A1 (A7 K) ov (A3 AC) A4) (pF (A1 (A7 K) ov A4 (A3 AC)) (A1 (A7 K) ov (A3 AC) A4) (pC [110,111,110,101])))))))) AW) (AD (AO 7 (Ad AB)) (AD (BL oQ rfl (C9 K (AI AM nS (Ad (AA (pC [113,120]) (AA (pC [113,121]) (pF (pC [113,120,113,121]) (pC [122,122,122,122,122,122,122,122]) (pC [120]))))))) (Ah 8) (AE (AV (PW.J (DW (FX Ce Ce AC (Al K (T.N 7) (pe (pv 8))) AC) (DU (AS (FS K) (pv 8) oD dp)))) (AE (Au (Ax K oN oU oS B7 oD (pe (pv 8))))) AW))) (AE (AJ (A1 (A7 K) oD A4 (A3 (AH K (Ad (pk AC AC)) (BA CV rfl (T.N 5) oP (pe (BP (Af K R) (AN (Ag T) hr (pk l' AC)) AC))))))))))))))))),?_⟩;show Ae po oY oY (λn0 H1 n1 n2 p1 s1=>?_);show⟨1+n0,rfl,by lia,by lia,?_⟩;refine Ha (n:=(1+n0).toNat) (small oZ) (λD j ys S=>∃cs:gk,ys=(cs.map λc=>[c]).map tx/\cs.length=j/\(∀c∈cs,c∈uP)/\D≠p/\Po S p/\pf p H S) (λD hD=>⟨[],rfl,rfl,(λ_ z=>nomatch z),p1.Z hD,p1.J (AL hD _),s1.J (pf.Z (AL hD _))⟩) (λD ys H3 hD hy ⟨cs,ey,b1,J,U,p3,s3⟩=>?_) ?_
 rotate_left
 .intro D j ys H3 hD hj hy hl z_;obtain⟨cs,rfl,b1,J,U,p3,s3⟩:=z_;show CQ ?_;show Ae p3 oZ oZ (λr4 H4 e1 g4 p4 s4=>?_);obtain⟨d,ed,hd⟩:=Ew (l:=uP) (i:=r4) e1 (by show r4<26;lia);show BS (small oY) ed ?_;refine B8 hj (small oZ) (s4 _ _ hy U) hl ⟨cs++[d],by simp,by simp[b1],λc G=>(cS.mp G).elim (J c) λz=>by rw[aS.mp z];exact hd,U,?_,λb o z zn=>?_⟩
  .obtain⟨a,b,c,e⟩:=p4;exact⟨a,b,c,by rw[AG (Ne.symm U)];exact e⟩
  .have e9:b≠D:=λe=>by
    have:=s1 _ _ z zn;rw[e,hD]at this;cases this
   rw[AG e9];exact s4 b o (s3 b o z zn) zn
 subst ey;show Dv (pq.J hy) (by rw[Eb,az];lia) ?_;rw[Eb];have h6:cs.length<=7:=by lia
 have h7:1<=cs.length:=by lia
 clear hy b1 U hD s1 p1;show Ae p3 oZ oZ (λat0 H4 a0 a1 p4 s4=>?_);show Ae p4 oY oY (λr5 H5 e0 g3 p5 s5=>?_);obtain⟨s,f5,c5⟩:=Ew (l:=uP) (i:=r5) e0 (by show r5<26;lia);refine BS (small oY) f5 ?_;obtain⟨r,rfl⟩:∃r:Nat,at0=r:=⟨at0.toNat,by lia⟩;have ea:((r:Int)+1)=((r+1:Nat):Int):=by lia
 ext;have h4:(cs.take r).length=r:=by rw[cU];lia
 have h3:(cs.drop (r+1)).length=cs.length-r-1:=by rw[List.length_drop];lia
 rw[Bn _ oZ,fb];refine BO (small (by rw[hH];lia)) ?_;ext;rw[ea,Ec];refine BO (small (by rw[aN,hH];lia)) ?_;ext;have sB:pf p H H5:=(s3.J s4).J s5;clear s3 s4 s5 p3 p4;have L1:Lw cs:=⟨by lia,J⟩;have b2:Lw [s]:=⟨by simp,λc G=>by rw[aS.mp G];exact c5⟩;have L3:Lw (cs.take r++[s]++cs.drop (r+1)):=⟨by simp only[aN,hH];lia,λc G=>by
  simp only[cS]at G;rcases G with(z|z)|z
  .exact J c (fR z)
  .exact b2.2 c z
  .exact J c (List.mem_of_mem_drop z)⟩
 generalize cs.take r++[s]++cs.drop (r+1)=w4 at L3⊢;refine⟨small (n:=4) oY,λm hm=>?_⟩;have t1:=AL hm (.a [tx cs,tx (cs++[s]),tx ([s]++cs),tx w4]);have g1:=AF (H:=H5) (a:=m) (o:= .a [tx cs,tx (cs++[s]),tx ([s]++cs),tx w4]);have nm:=p5.Z hm;have b9:H m=none:=sB.qS p5 hm;have p6:=p5.J t1;have s6:=sB.J (pf.Z t1);generalize upd H5 m _=H6 at*
 clear t1 p5 sB;show⟨pq.Z (pq.J g1),?_⟩;show⟨small (n:=8) oY,λw8 b8=>?_⟩;have t2:=AL b8 (.a [tx [110,111,110,101],tx [114,111,119],tx [110,97,109,101,115],tx [115,104,111,119],tx [116,117,114,110],tx [107,105,110,100,115],tx [100,114,111,112],tx [109,97,110,121]]);have g2:(upd H6 w8 (.a [tx [110,111,110,101],tx [114,111,119],tx [110,97,109,101,115],tx [115,104,111,119],tx [116,117,114,110],tx [107,105,110,100,115],tx [100,114,111,112],tx [109,97,110,121]])) w8=ae (.a (yk.map tx)):=AF;have nw:=p6.Z b8;have p7:=p6.J t2;have Y:=t2 _ _ g1;have s7:=s6.J (pf.Z t2);generalize upd H6 w8 _=H7 at*
 clear t2 p6 s6 g1;show Ae p7 oY oY (λr8 H8 d9 g0 p8 s8=>?_);obtain⟨C,f4,e6⟩:=Fz (l:=yk) (i:=r8) d9 (by show r8<8;lia);refine AK (pq.J (s8 _ _ g2 nw)) (v:=tx C) (F2 tx f4) ?_;show⟨m,_,_,rfl,rfl,s8 _ _ Y nm,B5 (show 4<=1000 by decide),?_⟩;have L8:Lw C:=y9 C e6;have g9:(upd H8 m (.a ([tx cs,tx (cs++[s]),tx ([s]++cs),tx w4]++[tx C]))) m=ae (.a ([cs,cs++[s],[s]++cs,w4,C].map tx)):=AF;have p9:Po (upd H8 m (.a ([tx cs,tx (cs++[s]),tx ([s]++cs),tx w4]++[tx C]))) p:=by
  obtain⟨a,b,c,e⟩:=p8;exact⟨a,b,c,by rw[AG nm.symm];exact e⟩
 have s9:pf p H (upd H8 m (.a ([tx cs,tx (cs++[s]),tx ([s]++cs),tx w4]++[tx C]))):=λb o z zn=>by
  rw[AG (AQ z b9)];exact(s7.J s8) b o z zn
 generalize upd H8 m _=H9 at*
 clear s7 s8 p7 p8 Y g2;show Ae p9 oY oY (λr9 i0 f9 f8 Z a5=>?_);have d2:=a5 _ _ g9 nm;have a4:=s9.J a5;clear s9 a5 g9 p9;show y' (λO S=>∃ (m':Addr) (ws:List gk) (o6:Option V),O=[ae (.b p),ae (tx uP),ae (tx cs),ae (.a r),ae (tx [s]),ae (.b m'),o6,none,none]/\S m'=ae (.a (ws.map tx))/\ws.length=5/\(∀w∈ws,Lw w)/\m'≠p/\Po S p/\pf p H S) ?_ ?_ (λ_=>⟨m,[cs,cs++[s],[s]++cs,w4,C],none,rfl,d2,rfl,?_,nm,Z,a4⟩)
 rotate_left
 .intro G N hN;ext;have LW:Lw (cs++[s]++[98]):=⟨by simp only[aN,hH];lia,λc G=>by
   simp only[cS,aS]at G;rcases G with(z|z)|z
   .exact J c z
   .rw[z];exact c5
   .rw[z];decide⟩
  generalize cs++[s]++[98]=x at LW⊢;have c1:Aq x none (ae 1)=x.take 1:=Bn _ oY;have c2:Aq x (ae 1) none=x.drop 1:=Ec x 1;have c3:Aq x none (ae 2)=x.take 2:=Bn _ oY;have c4:Aq x (ae 2) none=x.drop 2:=Ec x 2;rw[c1,c2,c3,c4];refine⟨small (n:=5) oY,λm2 c0=>?_⟩;ext;have t3:=AL c0 (.a [tx (x.take 1),tx (x.drop 1),tx (x.take 2),tx (x.drop 2),tx [110,111,110,101]]);refine⟨m2,[x.take 1,x.drop 1,x.take 2,x.drop 2,[110,111,110,101]],_,rfl,AF,rfl,?_,Z.Z c0,Z.J t3,a4.J (pf.Z t3)⟩;have hT:∀n,Lw (x.take n):=λn=>⟨by have:=LW.1;rw[cU];lia,λc G=>LW.2 c (fR G)⟩;have c9:∀n,Lw (x.drop n):=λn=>⟨by have:=LW.1;rw[List.length_drop];lia,λc G=>LW.2 c (List.mem_of_mem_drop G)⟩;intro w I;simp only[List.mem_cons,List.not_mem_nil,or_false]at I;rcases I with rfl|rfl|rfl|rfl|rfl
  .exact hT 1
  .exact c9 1
  .exact hT 2
  .exact c9 2
  .exact y9 _ oY
 .intro w I;have:=L1.2;simp only[List.mem_cons,List.not_mem_nil,or_false]at I;rcases I with rfl|rfl|rfl|rfl|rfl
  .exact L1
  .exact L1.J b2 (by rw[hH];lia)
  .exact b2.J L1 (by rw[hH];lia)
  .exact L3
  .exact L8
 intro O d6 z_;obtain⟨m',ws,o6,rfl,d1,b7,f0,g8,A,a3⟩:=z_;show⟨small (n:=0) oY,λfo a9=>?_⟩;have t4:=AL a9 (.a []);have f3:=AF (H:=d6) (a:=fo) (o:= .a []);have nf:=A.Z a9;have e8:H fo=none:=a3.qS A a9;have gm:=t4 _ _ d1;have e3:=A.J t4;have d8:=a3.J (pf.Z t4);generalize upd d6 fo _=d5 at*
 clear t4 A a3 d1 a4 Z d2 L8 L3 b9;show⟨small (n:=5) oY,λl5 e7=>?_⟩;have t5:=AL e7 (.a [tx [113,120],tx [113,121],tx [113,120,113,121],tx [122,122,122,122,122,122,122,122],tx [120]]);have g5:(upd d5 l5 (.a [tx [113,120],tx [113,121],tx [113,120,113,121],tx [122,122,122,122,122,122,122,122],tx [120]])) l5=ae (.a (vG.map tx)):=AF;have b6:=e3.J t5;have E:=t5 _ _ f3;have f2:=t5 _ _ gm;have b4:=d8.J (pf.Z t5);generalize upd d5 l5 _=d4 at*
 show Em f2 g5 (small (by rw[az,az,b7];decide)) (λl6 a6=>?_);rw[<-b0];have t6:=AL a6 (.a ((ws++vG).map tx));have g6:(upd d4 l6 (.a ((ws++vG).map tx))) l6=ae (.a ((ws++vG).map tx)):=AF;have h0:=b6.Z a6;have e4:l6≠fo:=(AQ E a6).symm;have gf:=t6 _ _ E;have e2:=b6.J t6;have d7:=b4.J (pf.Z t6);generalize upd d4 l6 _=h9 at*
 have f1:∀w∈ws++vG,Lw w:=λw I=>(cS.mp I).elim (f0 w) (zw w);have c6:(ws++vG).length=10:=by rw[aN,b7];rfl
 have e5:[120]∈ws++vG:=List.mem_append_right _ oY;generalize ws++vG=wa at*
 show⟨l6,rfl,⟨_,pq.J g6⟩,?_⟩;refine Lu (xs:=wa.map tx) (λi O S=>∃ (fs:List gk) (o8:Option V),O=[ae (.b p),ae (tx uP),ae (tx cs),ae (.a r),ae (tx [s]),ae (.b m'),o6,ae (.b fo),o8]/\S fo=ae (.a (fs.map tx))/\fs.length<=i/\(∀w∈fs,Nm w)/\(∀ (j:Nat) (w:gk),j<i->wa[j]? =ae w->1<=w.length->w.length<=8->w∈fs)/\S l6=ae (.a (wa.map tx))/\Po S p/\pf p H S) ⟨[],_,rfl,gf,by simp,(λ_ z=>nomatch z),(λj w hj=>absurd hj (Nat.not_lt_zero j)),g6,e2,d7⟩ (λi O S _ ⟨_,_,_,_,_,_,_,g,_⟩=>pq.J g) ?_ ?_
 .intro i v O d3 hv z_;obtain⟨fs,o8,rfl,y,c8,M,X,gl,B,Q⟩:=z_;obtain⟨w,I,rfl⟩:∃w,wa[i]? =ae w/\tx w=v:=by
   rw[ao]at hv;obtain⟨w,h1,h2⟩:=dj.mp hv;exact⟨w,h1,h2⟩
  have hL:=f1 w (cE I);have h5:=hL.1;have hi:i<10:=by rw[<-c6];exact(aR.mp I).1
  ext;have t:(1<=w.length->w.length<=8->w∈fs)->∀ (j:Nat) (u:gk),j<i+1->wa[j]? =ae u->1<=u.length->u.length<=8->u∈fs:=λhk j u hj R h1 h8=>by
   by_cases e:j=i
   .subst e;rw[I]at R;cases R;exact hk h1 h8
   .exact X j u oZ R h1 h8
  refine qu (λh1=>?_) (λh1=>?_)
  rotate_left
  .show pL rfl ?_;ext;exact⟨fs,_,rfl,y,by lia,M,t λz=>absurd z oZ,gl,B,Q⟩
  show qu (λh8=>?_) (λh8=>?_)
  rotate_left
  .refine pL rfl ?_;ext;exact⟨fs,_,rfl,y,by lia,M,t λ_ z=>absurd z oZ,gl,B,Q⟩
  show LZ (.inl (pq.J y)) rfl (by rw[List.all_map,List.all_eq_true];intro _ _;rfl) ?_;rw[IX];ext
  by_cases a7:w∈fs
  .rw[be a7];refine pL rfl ?_;ext;exact⟨fs,_,rfl,y,by lia,M,t λ_ _=>a7,gl,B,Q⟩
  .rw[ba a7];refine pK rfl ?_;show⟨pq.Z (pq.J y),?_⟩;show⟨fo,_,_,rfl,rfl,y,B5 (by rw[az];lia),?_⟩;show⟨fs++[w],_,rfl,by rw[AF,b0];rfl,by rw[aN,hH];lia,λu R=>?_,λj u hj R a1 a8=>?_,by rw[AG e4];exact gl,?_,λb o z zn=>?_⟩
   .rcases cS.mp R with z|z
    .exact M u z
    .rw[aS.mp z];exact⟨by lia,by lia,hL.2⟩
   .by_cases e:j=i
    .subst e;rw[I]at R;cases R;exact List.mem_append_right _ (aS.mpr rfl)
    .exact List.mem_append_left _ (X j u oZ R a1 a8)
   .obtain⟨a,b,c,e⟩:=B;exact⟨a,b,c,by rw[AG nf.symm];exact e⟩
   .rw[AG (AQ z e8)];exact Q b o z zn
 .intro O d3 z_;obtain⟨fs,o8,rfl,y,c8,M,X,gl,B,Q⟩:=z_;rw[az,c6]at c8 X;have hx:[120]∈fs:=by
   obtain⟨j,hj,e⟩:=List.mem_iff_getElem.mp e5;exact X j [120] oZ (by rw[al hj,e]) oY oY
  have f7:1<=fs.length:=List.length_pos_of_mem hx;show⟨small (n:=2) oY,λl7 c7=>?_⟩;have t7:=AL c7 (.a [V.a 5,V.a 10]);have g7:=AF (H:=d3) (a:=l7) (o:= .a [V.a 5,V.a 10]);have n7:=B.Z c7;show Ae (B.J t7) oY oY (λr7 f6 _ _ b5 a2=>?_);ext;have d0:=a2 _ _ (t7 _ _ y) nf;have Y:=a2 _ _ g7 n7;have b3:pf p H f6:=(Q.J (pf.Z t7)).J a2;obtain⟨n,en,hn⟩:∃n:Int,pY [V.a 5,V.a 10] (if decide (r7=1)=true then 1 else 0)=ae (.a n)/\(n=5\/n=10):=by
   cases decide (r7=1)
   .exact⟨5,rfl, .inl rfl⟩
   .exact⟨10,rfl, .inr rfl⟩
  refine AK (pq.J Y) en ?_;show E3 (pq.J d0) (λL hL=>?_);have ec:C7 (fs.map tx) none (ae n)=(fs.take n.toNat).map tx:=by
   rw[List.map_take];exact Bn _ oZ
  rw[ec];have t8:=AL hL (.a ((fs.take n.toNat).map tx));exact q L _ _ (b3.qS b5 hL) (b5.J t8) (b3.J (pf.Z t8)) AF (λw I=>M w (fR I)) (by rw[cU];lia) (by rw[cU];lia)
def QC:qp P w K mg base (k+1) "_law_is_line" ["k","row"] (vO):=pJ.u (T.f.J 69) (pI ["k","row"]) λm H S h=>by
 obtain⟨d,a,rfl,s,r,Z,q⟩:=h;have U:=S.J;refine⟨_,(AE (AJ (Er (BP Ce (Al K (T.N 7) (pe ma)) AC) (DY (BP (Af K U) (BE (own:=["sign"]) (sel:=[0]) (A9 (osc:=(AX (top 112))) (N:=["k","row"]) bg) rfl (Cb ma) (λ_ _ _ _ _=>(Am (i:=0) (show(["sign","k"]:hE).Nodup from by decide +kernel) rfl (lY rfl))) (Av oY) (λ_ _ _ _ _=>Fl (AS (FS K) l' (AI AM (AI AM (A1 (A7 K) (pC [40,91,123,60]) A4 (A3 ma)) (A1 (A7 K) (pC [41,93,125,62]) A4 (A3 ma))) (pC [63])) dp)) (λ_ _ _ _ _=>l')) (Ad AB)))))),?_⟩;show qu (λG=>?_) (λG=>?_)
 rotate_left
 .have:=q H (pj.ap H);rw[UG oZ]at this;exact this
 have G:a.length<=40:=by lia
 show HZ (small oZ) (λD i I g=>I=(((a.take i).filter λc=> !decide (c∈sgn d)).map λc=>tx [c])/\pf D H g) (λD y=>⟨rfl,pf.Z (AL y _)⟩) (λD I g y j ⟨e,B⟩=>?_) ?_
 .rw[List.take_length]at e;have X:pj H g:=λb o z=>B b o z (AQ z y);show⟨small (n:=0) oY,λz Y=>?_⟩;ext;have L:=AL Y (.a []);refine ON (pq.J (L _ _ j)) (pq.J AF) (by rw[e,List.all_map,List.all_eq_true];intro _ _;rfl) rfl ?_;have J:=q _ (X.J L);unfold AR at J;rw[be G,Bool.true_and]at J;rw[e,YT];exact J
 .rintro D i c I g y M l j x ⟨e,B⟩;ext;have Q:Aq [40,91,123,60] none (ae d)=qP.take d.toNat/\Aq [41,93,125,62] none (ae d)=cls.take d.toNat:=by
   obtain rfl|rfl|rfl|rfl:d=1\/d=2\/d=3\/d=4:=by lia
   all_goals exact⟨by decide,by decide⟩
  have p:(qP.take d.toNat).length<=4:=by rw[cU];exact bw (Nat.min_le_right _ _) oY
  have n:(cls.take d.toNat).length<=4:=by rw[cU];exact bw (Nat.min_le_right _ _) oY
  rw[Q.1,Q.2];refine BO (small oZ) ?_;ext;rw[show List.take d.toNat qP++List.take d.toNat cls++[63]=sgn d from rfl]
  cases R:(!decide (c∈sgn d))with
  |true=>
   refine pK rfl ?_;show B8 l (small oZ) j x ⟨?_,B.J pf.ap⟩;rw[e,Lv M true R,b0];rfl
  |false=>
   refine pL rfl ?_;exact TN l j x ⟨by rw[e,Lv M false R];simp,B⟩
def EL:qp P w K mg base (k+1) "_law_shown" ["row"] (uZ):=pJ.u (T.f.J 70) (pI ["row"]) λc _ b h=>by
 obtain⟨a,rfl,q⟩:=h;have d:=b.J;refine⟨_,(AE (AJ (BR (AS (CA K d) l' (pC [])) l' (pC [110,111,110,101])))),?_⟩;ext
 by_cases e:a=[]
 .subst e;refine pL rfl ?_;ext;exact q
 .refine pK (by rw[ba e];rfl) ?_;ext;rw[show rK a=a from aP e]at q;exact q
def Qv:Pg P w K mg base (k+1) "_law_word" ["caught"] (vJ cs):=pJ.Z (T.f.J 71) (pI ["caught","kinds"]) (λ_ _ _ _ _ _=>by first|exact yo λ_ _=>rfl|exact yp λ_=>rfl|exact ym λ_ _ _=>rfl|exact yR λ_ _ _ _=>rfl|exact yq rfl) λs H R h=>by
 obtain⟨x,C,r,a,rfl,d,L,S,q⟩:=h;have v:=dE (Nat.le_add_right _ (16*k+200)) (Nat.add_assoc .. ▸R.a);obtain⟨e,i,y,z,j,p,Z,U,X,Y,o,m,n,g,rfl,B⟩:=RI T.t (C:=C) (nm:=a) L S (by cases L;exact(T.c.J 11).2;exact(T.c.J 10).2;exact(T.c.J 1).2;exact(T.c.J 2).2;exact(T.c.J 5).2;exact(T.c.J 3).2;exact(T.c.J 8).2);refine⟨_,(AD (AO 1 (Ad (pF (Aj (B1 K) rfl (T.N 6) oM (pk l' (Bp (T.c.J 5).1))) (Aj (B1 K) rfl (T.N 6) oM (pk l' (Bp (T.c.J 3).1))) (Aj (B1 K) rfl (T.N 6) oM (pk l' (Bp (T.c.J 8).1)))))) (AD (Au (Ax K oN oU oS B7 ma (pe (Aj (B1 K) rfl (T.N 6) oM (pk l' (Bp (T.c.J 2).1)))))) (AE (AJ (AI AM (pC [9]) (AH K (Ad (AA (pC [78,111,78,117,109,98,101,114]) (pF (pC [78,111,116,82,105,103,104,116]) (pC [78,111,70,105,108,108,105,110,103]) (pC [78,111,76,105,110,101])))) (Ax K oN PySem.F.slot_list_index PySem.F.type_list_index Km ma (pe Cz)))))))),?_⟩;show CK d Z U ?_;show CK d Z X ?_;show CK d Z Y ?_;show⟨small (n:=3) oY,λl B=>?_⟩;have M:=AL B (.a [.c e, .c i, .c y]);show⟨pq.Z (pq.J AF),?_⟩;show CK (M _ _ d) Z o ?_;show⟨l,_,_,rfl,rfl,AF,B5 (show 3<=1000 by decide),?_⟩;rw[VB];have Q:pj H (upd H l (.a ([.c e, .c i, .c y]++[.c z]))):=AL B _;have b:(upd H l (.a ([.c e, .c i, .c y]++[.c z]))) l=ae (.a ([e,i,y,z].map V.c)):=AF;generalize upd H l _=G at Q b⊢;clear M;show⟨small (n:=4) oY,λu I=>?_⟩;have J:=AL I (.a [tx [78,111,78,117,109,98,101,114],tx [78,111,116,82,105,103,104,116],tx [78,111,70,105,108,108,105,110,103],tx [78,111,76,105,110,101]]);show⟨pq.Z (pq.J (J _ _ b)),?_⟩;show⟨l,_,_,j,rfl,rfl,J _ _ b,m,n,by simp,?_⟩;refine AK (pq.J AF) g ?_;ext;exact q _ (Q.J J)
def Qw:Ak P w K mg base (k+6) "_law_sure" ["k","row"] (ve cs):=pJ.J (T.f.J 72) (pI ["k","row","signs","place","bracket"]) @λ_ _ _ _ _ vs _ _ nd H S h=>by
 obtain⟨e,a,rfl,O,E,U,q⟩:=h;have hu:=S.J;have a0:=Ay S;have hl:=Ai U;refine⟨_,(AD (AO 2 (BA (KL K rfl) rfl (T.N 8) PyProof.Rows.boot_list (pe ma))) (AD (BL PassesOwn.leaving rfl (C9 K (Aa (JV T) S A5 (pk l' ma))) (B2 (n:=2) K rfl (Ao (Ah 3) (Ao (Ah 4) Bh))) (AE (Bc nt (Cc mm nc Bf)))) (AE (AJ (Ax K oO oW oV (Dt K) (pC []) (pe mm)))))),?_⟩;show MY oZ (λg I=>?_);have C:=AL I (.a ((a.map λc=>[c]).map tx));have h1:(upd H g (.a ((a.map λc=>[c]).map tx))) g=ae (.a ((a.map λc=>[c]).map tx)):=AF;generalize upd H g (.a ((a.map λc=>[c]).map tx))=H1 at*
 ext;rcases q with⟨t,rf⟩|⟨t,q⟩
 .exact⟨e,a,⟨rfl,O,E,U⟩, .inl ⟨t,rf.J C⟩⟩
 refine⟨e,a,⟨rfl,O,E,U⟩, .inr ⟨t,λD vs H2 hD A J hS=>?_⟩⟩;have L:∀x∈By e.toNat a,x.1<a.length:=λx R=>MM R;have V:=A _ _ h1;have M:vs.length=(By e.toNat a).length:=by rw[hS.1,az]
 have X:D≠g:=λz=>by rw[z,h1]at hD;cases hD
 show⟨D,rfl,⟨_,pq.J J⟩,?_⟩;refine HX (xs:=vs) (λi l B=>∃Y Z,l=[ae (.a e),ae (tx a),ae (.b g),Y,Z]/\pf g H2 B/\B g=ae (.a (((CO a ((By e.toNat a).take i)).map λc=>[c]).map tx))) ⟨_,_,rfl,pf.Z (pj.ap _),V⟩ (λi l B _ ⟨_,_,_,G,_⟩=>pq.J (G _ _ J X)) ?_ ?_
 .intro i x l B R p;obtain⟨Y,Z,rfl,G,m⟩:=p;have hi:i<vs.length:=(aR.mp R).1;obtain⟨y,r⟩:∃y,(By e.toNat a)[i]? =ae y:=⟨_,al (by rw[<-M];exact hi)⟩;obtain⟨v,Q,d⟩:=hS.2 i _ (by rw[ao,r];rfl);rw[R]at Q
  cases Q
  have d:H2 v=ae (.b [.a y.1,tx [pN.getD y.2 0]]):=d;have s:=L y (cE r);have u:v≠g:=λz=>by rw[z,V]at d;cases d
  show⟨v,_,rfl,pX.J (G _ _ d u),rfl,?_⟩;show Bj m (j:=y.1) (My (by rw[az,az,DQ];exact s)) ?_;show⟨_,_,rfl,G.J pf.ap,?_⟩;rw[AF,List.take_add_one,r];simp only[oX];rw[KQ,List.map_set,List.map_set]
 .intro l B p;obtain⟨Y,Z,rfl,G,m⟩:=p;rw[M,List.take_length]at m;show Dv (pq.J m) (by rw[ET,az,DQ];lia) ?_;rw[ET];ext;exact q B λb o z=>G b o (A _ _ (C _ _ z)) (AQ z I)
def QB:Ak P w K mg base (k+8) "_law_told_of" ["k","head","row","more"] (vK cs):=pJ.J (T.f.J 73) (pI ["k","head","row","more","told"]) @λ_ _ _ _ s _ _ _ nd _ y h=>by
 obtain⟨d,dd,a,n,b,rfl,p,g,B,hq,hn,R,S,q,r⟩:=h;have I:=y.J;have a0:=Ay y;have A:=Ai B;refine⟨_,(AD (AV (AS (Af K I) ma (pC [114,105,103,104,116])) (AE (AJ (AH K (Ad (pk (pC [110,111]) (pC [121,101,115]))) (BA CV rfl (T.N 5) oP (pe (Aa (Gg T) y A5 (pk l' mm))))))) AW) (AD (AV (AS (Af K I) ma (pC [109,97,121])) (AE (AJ (AH K (Ad (pk (pC [110,111]) (pC [121,101,115]))) (BA CV rfl (T.N 5) oP (pe (Aa (Jh T) y A5 (pk l' mm))))))) AW) (AD (AV (AS (Af K I) ma (pC [109,97,110,121])) (AE (AJ (BA Ck rfl (T.N 15) oR (pe (AI AM (Aa (Gh T) y A5 (pk l' mm)) AC))))) AW) (AD (AV (AS (Af K I) ma (pC [110,116,104])) (AE (AJ (AN (EL T) y (pe (Aa (Gc T) y A5 (pF l' mm (BA HB rfl (T.N 5) oP (pe nc)))))))) AW) (AD (AV (AS (Af K I) ma (pC [110,117,109,98,101,114])) (AE (AJ (BA Ck rfl (T.N 15) oR (pe (AI AM (Aa (Jg T) y A5 (pF l' mm nc)) AC))))) AW) (AD (AV (AS (Af K I) ma (pC [115,117,114,101])) (AE (AJ (AN (EL T) y (pe (Aa (Qw T) y A5 (pk l' mm)))))) AW) (AD (AV (AS (Af K I) ma (pC [102,101,119,101,115,116])) (AD (AO 4 (Aa (JS T) y A5 (pk l' mm))) (AE (AJ (BR (AS Bm nt Ar) (pC [110,111,110,101]) (AI AM (AI AM (BA Ck rfl (T.N 15) oR (pe (AI AM (AH K nt AC) AC))) (pC [32])) (AN (EL T) y (pe (AH K nt AC)))))))) AW) (AD (AV (AS (Af K I) ma (pC [109,111,114,101])) (AD (AO 4 (Aa (JW T) y A5 (pk l' mm))) (AE (AJ (BR (AS Bm nt Ar) (pC [110,111,110,101]) (BA Ck rfl (T.N 15) oR (pe (AI AM nt AC))))))) AW) (AE (AJ (AN (EL T) y (pe mm)))))))))))),?_⟩
 cases dd<;>first|(cases hq;done)|skip
 all_goals ext
 all_goals repeat((first|refine pK oY ?_ |refine pL oY ?_);ext)
 .exact⟨a,rfl,q _ _ (pj.ap _) .show⟩
 .refine⟨small (n:=2) oY,λz U=>?_⟩;have X:=AL U (.a [tx [110,111],tx [121,101,115]]);show .inl (Gk p g B (λJ j=>?_));show AK (pq.J (j _ _ AF)) (v:=tx (yn (decide (Rt a)))) (by cases decide (Rt a)<;>rfl) ?_;ext;exact q _ _ (X.J j) .g
 .refine⟨small (n:=2) oY,λz U=>?_⟩;have X:=AL U (.a [tx [110,111],tx [121,101,115]]);show Kt p g B (λJ j=>?_);show AK (pq.J (j _ _ AF)) (v:=tx (yn (v7 d.toNat a))) (by cases v7 d.toNat a<;>rfl) ?_;ext;exact q _ _ (X.J j) .l
 .refine .inl (HU p g B (λJ j=>?_));ext;obtain⟨c1,L⟩:=NG (k:=d.toNat) (a:=a) oZ (Ai B);rw[Int.add_zero,<-c1];refine Cr L ?_;ext;exact q _ _ j .k
 .refine F7 oZ ?_;ext
  by_cases c:(n:Int)<qc d.toNat a
  .refine HP p g B oZ c (λE J j nf R=>?_);ext;exact⟨_,rfl,q _ _ j (.j c nf R)⟩
  .exact .inr ⟨_,_,_,rfl, .inr ⟨d,a,rfl,rfl,p,g,B,⟨"int",pQ.a _,by decide,λi hi=>by cases hi;lia⟩,(r _ _ .b oY (.e c)).J (pj.ap _)⟩⟩
 .have M:=S rfl
  cases L:qh d a b with
  |false=>exact .inr ⟨_,_,_,rfl, .inr ⟨d,a,rfl,rfl,p,g,B, .inl ⟨b,rfl,R,L⟩,(r _ _ .c oY (.c M L)).J (pj.ap _)⟩⟩
  |true=>
   obtain⟨E,e,Y⟩:=M7 (k:=d.toNat) oZ (by rwa[show((d.toNat:Nat):Int)=d by lia]);subst e;refine Jp p g B Y (λH2 O=>?_);ext;obtain⟨_,h0,Z⟩:=Fi.Z (k:=d.toNat) oZ A (by intro o ho;cases ho) Y;have h5:=(Ee (k:=d.toNat) (a:=a) oZ A).2;have hW:W d.toNat a 0 []=qc d.toNat a:=rfl;rw[hW]at Z;have H:=q _ _ O (.i M L rfl Y);generalize num d.toNat a 0 [] E=m at*
   have em:m=((m.toNat:Nat):Int):=by lia
   have hm:m.toNat<2^1900:=by
    have:m.toNat<=5^40:=by lia
    exact dE this bg
   rw[Int.add_zero,em];refine Cr hm ?_;ext;exact H
 .by_cases c:qc d.toNat a=0
  .exact⟨d,a,rfl,p,g,B, .inl ⟨c,(r _ _ .a oY (.b c)).J (pj.ap _)⟩⟩
  .refine⟨d,a,rfl,p,g,B, .inr ⟨c,λJ j=>?_⟩⟩;ext;exact⟨_,rfl,q _ _ j (.f c)⟩
 .refine⟨d,a,rfl,p,g,B,λv J j u=>?_⟩;have H:=λG s=>q _ G (j.J s) .d;have t:=λw l h=>Fn (a:=a) (show d.toNat<=4 by lia) (w:=w) (l:=l) h;generalize wy d.toNat a=o at*
  ext
  match o,u,t,H with
  |none,u,t,H=>
   cases(show v= .d from u)
   refine pK rfl ?_;ext;exact H _ (pj.ap _)
  |some (w,l),⟨T1,ev,C⟩,t,H=>
   subst ev;have Q:l.length=a.length:=(t w l rfl).1;have a2:(rS l).length=a.length:=by unfold rS;rw[az];exact Q
   refine pL rfl ?_;ext;have a1:=GD a l;refine BJ (pX.J C) rfl ?_;ext;rw[Int.add_zero];refine Cr (dE (show chg a l<=40 by lia) bg) ?_;ext;have n1:=DA 8 (chg a l) oZ;refine BO (small (by show _+1<=1000;lia)) ?_;show BJ (pX.J C) rfl ?_;show⟨_,rfl,?_⟩;have n2:=Fk (a:=rS l) (n:=40) oY oZ;ext;exact H _ (pj.ap _)
 .refine Jt p g B (λV J j D=>?_);have H:=q _ _ j (.h D);ext
  cases V with
  |nil=>
   refine pK rfl ?_;ext;exact H
  |cons x r=>
   have R:=((D.2.1 x).mp List.mem_cons_self).J;refine pL rfl ?_;ext;have ex:x=((x.toNat:Nat):Int):=by lia
   refine NZ ?_;rw[Int.add_zero,ex];refine Cr (dE (show x.toNat<=40 by lia) bg) ?_;ext;exact H
def Rc:qp P w K mg base (k+9) "_law_due" ["k","head","row","more"] (wL):=pJ.u (T.f.J 74) (pI ["k","head","row","more","found","e"]) λv _ d h=>by
 obtain⟨z,l,a,n,b,rfl,p,o,U,X,Y,Q,q⟩:=h;have Z:=d.J;have E:=Ay d;have m:∀C B,qR cs C B->qm K C:=λC B h=>by
  cases h
  .exact(T.c.J 11).2
  .exact(T.c.J 10).2
  .exact(T.c.J 1).2
  .exact(T.c.J 2).2
  .exact(T.c.J 5).2
  .exact(T.c.J 3).2
  .exact(T.c.J 8).2
 refine⟨_,(AD (AV (PW.J (DW (AS (Af K Z) ma (pC [110,117,109,98,101,114])) (DU (Bb (BD K (AN (QC T) d (pk l' nc))))))) (AE (AJ (pC [9,78,111,76,105,110,101]))) AW) (AD (AO 4 (pC [])) (AD (Nd (i:=5) (T.c.J 0).2 (T.c.J 0).1 ⟨rfl,rfl,rfl⟩ v rfl rfl (λpn O R H=>(AE (AO 4 (Aa (QB T) d H (AA l' (pF ma mm nc)))))) (λev=>(AE (AO 4 (Xz (Qv T) (d.h _) (pe nS)))))) (AE (AJ nt))))),?_⟩;show WL (co:=l= .number->AR z b=true) (λG x I=>?_) (λh t=>?_) (λh e=>?_)
 .show⟨z,l,a,n,b,rfl,p,o,U,X,Y,Q,I,λt H2 J L=>?_,λC B S N L=>?_⟩
  .ext;exact q _ _ (x.J J) L
  .obtain⟨b1,b2,b3,b4,b5,b6,b7,j,V,A,_⟩:=K3 T.t S;refine Na λy M r D=>⟨A,λg=>?_⟩;have J:pj G (upd M y (BM g y C)):=LX r D;have H:(upd M y (BM g y C)) y=ae (BM g y C):=AF;generalize upd M y _=G3 at*
   show⟨y,C,g,B,rfl,H,S,N,λH' s=>?_⟩;show Kb ?_;ext;exact q _ _ ((x.J J).J s) L
 .have e:l= .number:=by cases l<;>first|rfl|exact absurd h oY
  subst e;show⟨z,b,rfl,p,o,Q,λG x=>?_⟩;ext
  cases c:AR z b with
  |false=>
   refine pK rfl ?_;ext;exact q _ _ x (.a c)
  |true=>
   refine pL rfl ?_;exact t _ x λ_=>c
 .subst e;exact absurd h oY
def P4:Ak P w K mg base (k+6) "_law_question" ["pool","k","row"] (u5):=pJ.J (T.f.J 75) (pI ["pool","k","row","head","many","some","other","at","bent"]) λnd H j h=>by
 obtain⟨p,Q,a,rfl,po,k1,r,ha,q⟩:=h;have hu:=j.J;have b9:=Ay j;have hl:=Ai ha;refine⟨_,(AD (AO 3 (AH K (Ad (AA (pC [114,105,103,104,116]) (AA (pC [109,97,121]) (AA (pC [109,97,110,121]) (AA (pC [110,116,104]) (AA (pC [110,117,109,98,101,114]) (AA (pC [115,117,114,101]) (pF (pC [102,101,119,101,115,116]) (pC [109,111,114,101]) (pC [115,104,111,119]))))))))) (AN (Ag T) j (pk l' AC)))) (AD (AO 4 (Aa (Gh T) j BI (pk ma mm))) (AD (AV (AS (Af K hu) nc (pC [110,116,104])) (AD (AO 5 (Ad (AA AC (AA (AI Nl nt AC) (AA nt (pF (AN (Ag T) j (pk l' (AI AM nt AC))) AC (AN (Ag T) j (pk l' (AI Nn AC AC))))))))) (AE (AJ (Az (pk nc (BA Ck rfl (T.N 15) oR (pe (Aj (HA rfl) rfl (T.N 10) PyProof.Rows.boot_min (pk AC (Aj (K4 rfl) rfl (T.N 9) PyProof.Rows.boot_max (pk AC (AH K nS (AN (Ag T) j (pk l' AC)))))))))))))) AW) (AD (AV (AS (CA K hu) nc (pC [110,117,109,98,101,114])) (AE (AJ (Az (pk nc (pC []))))) AW) (AD (AV (PW.J (BX (AS (Af K hu) nt AC) (Ba (AS (Af K hu) (AN (Ag T) j (pk l' AC)) AC)))) (AE (AJ (Az (pk nc (AH K (Ad (AA mm (AA (pC []) (AA (AI AM mm (pC [40,41])) (pF (A1 (A7 K) mm A4 (A3 (Bo Bi AC))) (pC [40,120,41]) (pC [63])))))) (AN (Ag T) j (pk l' AC))))))) AW) (AD (AO 6 (Aa (Gc T) j BI (pF ma mm (AN (Ag T) j (pk l' nt))))) (AD (AO 7 (AN (Ag T) j (pk l' (AI AM (Al K (T.N 7) (pe ov)) AC)))) (AD (AO 8 (AI AM (AI AM (A1 (A7 K) ov A4 (A3 oD)) (AH K (AN (Ge T) j (pe ma)) (AN (Ag T) j (pk l' (AI Bg AC ma))))) (A1 (A7 K) ov (A3 (AI AM oD AC)) A4))) (AE (AJ (Az (pk nc (AH K (Ad (pF ov ov (pv 8))) (AN (Ag T) j (pk l' AC))))))))))))))),?_⟩;show⟨small (n:=9) oY,λy hy=>?_⟩;have s0:=AL hy (.a [tx [114,105,103,104,116],tx [109,97,121],tx [109,97,110,121],tx [110,116,104],tx [110,117,109,98,101,114],tx [115,117,114,101],tx [102,101,119,101,115,116],tx [109,111,114,101],tx [115,104,111,119]]);have g0:=AF (H:=H) (a:=y) (o:= .a [tx [114,105,103,104,116],tx [109,97,121],tx [109,97,110,121],tx [110,116,104],tx [110,117,109,98,101,114],tx [115,117,114,101],tx [102,101,119,101,115,116],tx [109,111,114,101],tx [115,104,111,119]]);have n0:=po.Z hy;have p0:=po.J s0;have u0:=pf.Z (p:=p) s0;generalize upd H y _=H0 at*
 show Ae p0 oY oY (λr1 H1 a8 a7 p1 s1=>?_);obtain⟨dd,hq,hd⟩:=ZP a8 a7;refine AK (pq.J (s1 _ _ g0 n0)) hd ?_;have u1:=u0.J s1;clear s0 s1 g0 p0 u0 hd;show .inl (HU k1 r ha (λH2 s2=>?_));have D:=p1.J s2;have Z:=u1.J (pf.Z s2);clear s2 p1 u1;obtain⟨c0,c5⟩:=Ee (k:=Q.toNat) (a:=a) oZ hl;ext
 by_cases e1:dd= .nth
 .subst e1;refine pK oY ?_;show Ae D oZ oZ (λr2 H3 a6 a5 R u=>?_);show Ae R oY oY (λr3 H4 b6 b5 C O=>?_);have u4:=(Z.J u).J O;show⟨small (n:=6) oY,λz S=>?_⟩;have M:=AL S (.a [.a 0, .a (qc Q.toNat a-1), .a (qc Q.toNat a), .a r2, .a 999999999, .a r3]);show Ae (C.J M) oY oY (λx H6 a4 a3 X U=>?_);have s:=(u4.J (pf.Z M)).J U;have g6:=U _ _ AF (C.Z S);obtain⟨i,ei⟩:∃i:Int,pY [V.a 0,V.a (qc Q.toNat a-1),V.a (qc Q.toNat a),V.a r2,V.a 999999999,V.a r3] x=ae (.a i):=by
   have:x=0\/x=1\/x=2\/x=3\/x=4\/x=5:=by lia
   rcases this with rfl|rfl|rfl|rfl|rfl|rfl<;>exact⟨_,rfl⟩
  refine AK (pq.J g6) ei ?_;clear M U g6 ei u4 R C u O;ext;obtain⟨n,en,hn⟩:∃n:Nat,(if(if i>0 then i else 0)<999999999 then(if i>0 then i else 0)else 999999999)=(n:Int)/\n<10^9:=⟨((if(if i>0 then i else 0)<999999999 then(if i>0 then i else 0)else 999999999):Int).toNat,by split<;>split<;>lia,by split<;>split<;>lia⟩;rw[en];refine Cr (Nat.lt_trans hn bg) ?_;show⟨small (n:=2) oY,λL B=>?_⟩;have I:=AL B (.b [tx pW.nth.J,tx (Ab n)]);exact q L .nth n [] _ (s.qS X B) (X.J I) (s.J (pf.Z I)) rfl hn oY (λ_ z=>nomatch z) AF
 refine pL (Tq e1) ?_;ext
 by_cases e2:dd= .number
 rotate_left
 .refine pK (by rw[Tp e2];rfl) ?_;show⟨small (n:=2) oY,λL B=>?_⟩;have I:=AL B (.b [tx dd.J,tx []]);exact q L dd 0 [] _ (Z.qS D B) (D.J I) (Z.J (pf.Z I)) hq oY oY (λ_ z=>nomatch z) (by rw[Ui e1 e2];exact AF)
 subst e2;refine pL oY ?_;show Nz (co:=λG=>Po G p/\pf p H G) (λG ⟨R,u3⟩=>?_) (λ_=>⟨D,Z⟩) (λc1 t=>?_)
 .show⟨small (n:=6) oY,λz S=>?_⟩;have M:=AL S (.a [tx a,tx [],tx (a++[40,41]),tx (Aq a none (ae (-1))),tx [40,120,41],tx [63]]);show Ae (R.J M) oY oY (λx H6 a4 a3 X U=>?_);have g6:=U _ _ AF (R.Z S);have s:=(u3.J (pf.Z M)).J U;have hm:∀c∈a,c∈sgn 4\/c=120:=λc J=> .inl (JH r (DP ha c J));have E:(Aq a none (ae (-1))).length<=40/\∀c∈Aq a none (ae (-1)),c∈a:=⟨by have:=WZ a none (ae (-1));lia,λc h=>WY h⟩;obtain⟨b,eb,hb,Y⟩:∃b,pY [tx a,tx [],tx (a++[40,41]),tx (Aq a none (ae (-1))),tx [40,120,41],tx [63]] x=ae (tx b)/\b.length<=50/\∀c∈b,c∈sgn 4\/c=120:=by
   have:x=0\/x=1\/x=2\/x=3\/x=4\/x=5:=by lia
   rcases this with rfl|rfl|rfl|rfl|rfl|rfl
   .exact⟨_,rfl,by lia,hm⟩
   .exact⟨_,rfl,by decide,λ_ z=>nomatch z⟩
   .exact⟨_,rfl,by rw[aN];show _+2<=_;lia,λc J=>(cS.mp J).elim (hm c) λz=> .inl ((show∀c∈[40,41],c∈sgn 4 by decide) c z)⟩
   .exact⟨_,rfl,by lia,λc J=>hm c (E.2 c J)⟩
   .exact⟨_,rfl,by decide,by decide⟩
   .exact⟨_,rfl,by decide,by decide⟩
  refine AK (pq.J g6) eb ?_;show⟨small (n:=2) oY,λL B=>?_⟩;have I:=AL B (.b [tx pW.number.J,tx b]);exact q L .number 0 b _ (s.qS X B) (X.J I) (s.J (pf.Z I)) rfl oY hb Y AF
 .have c1:=of_decide_eq_false c1;show Ae D oY oY (λr2 H3 a6 a5 R u=>?_);show qu (λa9=>?_) (λa9=>?_)
  .exact t _ ⟨R,Z.J u⟩
  .show Ae R oZ oZ (λr4 H4 A v C O=>?_);refine⟨by rfl,HP k1 r ha A v (λm H5 M nf hb=>?_)⟩;ext;have bl:(pU m).length<=40:=by unfold pU;rw[az];lia
   have p5:=C.J M;refine NY (small oZ) ?_;show Ae p5 oZ oZ (λat0 H6 a0 a1 X U=>?_);show Gj k1 r ?_;have sl:=Hq k1 r;show Ae X oZ oZ (λr7 H7 a2 b4 p7 s7=>?_);obtain⟨d,ed,hd⟩:=Ew (l:=vz Q) (i:=r7) a2 (by rw[sl];lia);show BS (small oZ) ed ?_;obtain⟨g,rfl⟩:∃g:Nat,at0=g:=⟨at0.toNat,by lia⟩;have ea:((g:Int)+1)=((g+1:Nat):Int):=by lia
   rw[Bn _ oZ,fb];have b8:((pU m).take g).length<=40:=by rw[cU];lia
   have b7:((pU m).drop (g+1)).length<=40:=by rw[List.length_drop];lia
   refine BO (small (by rw[hH];lia)) ?_;ext;rw[ea,Ec];refine BO (small (by rw[aN,hH];lia)) ?_;ext;have bm:∀c∈pU m,c∈sgn 4\/c=120:=λc J=> .inl (by
    unfold pU at J;obtain⟨b,b0,rfl⟩:=List.mem_map.mp J;have e:∀b,b<8->pN.getD b 0∈sgn 4:=by decide
    by_cases b1:b<8
    .exact e b b1
    .have:=(NF.ap (k:=Q.toNat) oZ hl oZ (by intro o ho;cases ho) A (show r4<W Q.toNat a 0 []from v) nf).lt b b0;lia)
   refine⟨small (n:=3) oY,λz S=>?_⟩;have s8:=AL S (.a [tx (pU m),tx (pU m),tx ((pU m).take g++[d]++(pU m).drop (g+1))]);show Ae (p7.J s8) oY oY (λr9 H9 b3 b2 p9 s9=>?_);have g9:=s9 _ _ AF (p7.Z S);have u9:=(((((Z.J u).J O).J (pf.Z M)).J U).J s7).J ((pf.Z s8).J s9);obtain⟨b,eb,hb,Y⟩:∃b,pY [tx (pU m),tx (pU m),tx ((pU m).take g++[d]++(pU m).drop (g+1))] r9=ae (tx b)/\b.length<=50/\∀c∈b,c∈sgn 4\/c=120:=by
    have:r9=0\/r9=1\/r9=2:=by lia
    rcases this with rfl|rfl|rfl
    .exact⟨_,rfl,by lia,bm⟩
    .exact⟨_,rfl,by lia,bm⟩
    .refine⟨_,rfl,by simp only[aN,cU,List.length_drop,hH];lia,λc J=>?_⟩;simp only[cS,aS]at J;rcases J with(z|z)|z
     .exact bm c (fR z)
     .rw[z];exact .inl (JH r (Ho hd))
     .exact bm c (List.mem_of_mem_drop z)
   refine AK (pq.J g9) eb ?_;show⟨small (n:=2) oY,λL B=>?_⟩;have I:=AL B (.b [tx pW.number.J,tx b]);exact q L .number 0 b _ (u9.qS p9 B) (p9.J I) (u9.J (pf.Z I)) rfl oY hb Y AF
def Q1:Ak P w K mg base (k+6) "_law_deed" ["pool","state","names","most"] (vi):=pJ.J (T.f.J 76) (pI ["pool","state","names","most","kept","name","one","other","way","k","row","due"]) @λ_ _ _ _ _ _ Q _ nd H hr h=>by
 obtain⟨p,M,d,nl,kk,u,ns,m,rfl,po,hS,b4,n3,nsq,k1,k4,a9,c5,b3,d1,c4,m1,b9,q⟩:=h;have hu:=hr.J;have B:=Ay hr;obtain⟨e1,e2⟩:=id hS;have n1:=po.ld e1 λa b c z=>by cases z
 have n2:=po.ld e2 λa b c z=>by cases z
 refine BU ⟨_,(AD (AO 4 (A6 B ma (pC [107,101,112,116]))) (AD (Bc (BE (own:=["turn"]) (sel:=[2,0]) (A9 (osc:=(AX (top 119))) (N:=["pool","state","names","most","kept","name","one","other","way","k","row","due"]) bg) rfl (CI rfl (T.N 11) (pe AC)) (λ_ _ _ _ _=>(Am (i:=0) (show(["turn","names","pool"]:hE).Nodup from by decide +kernel) rfl (lY rfl))) (Av oY) (λ_ _ _ _ _=>BC) (λ_ _ _ _ _=>(AH K ma (AN (Ag T) hr (pk mm (Al K (T.N 7) (pe ma))))))) (Mj (n:=3) K rfl (Ao (Ah 5) (Ao (Ah 6) (Ao (Ah 7) Bh))))) (AD (AO 8 (AN (Ag T) hr (pk l' AC))) (AD (AV (AS (Af K hu) (pv 8) AC) (AD (AO 9 (AI AM AC (AN (Ag T) hr (pk l' AC)))) (AD (DC B ma (pC [107,105,110,100,115]) (pv 9) rfl) (AD (DC B ma (pC [107,101,112,116]) DS rfl) (AE (AJ (Az (pk (AI AM (pC [107,105,110,100,115,32]) (BA Ck rfl (T.N 15) oR (pe (pv 9)))) (pC [111,107])))))))) AW) (AD (AV (AS (Af K hu) (pv 8) AC) (AE (AJ (Az (pk (AH K (Ad (AA (pC [110,97,109,101,115,32]) (pF (pC [115,104,111,119]) (pC [116,117,114,110,32,97]) (pC [114,111,119,32,97])))) (AN (Ag T) hr (pk l' AC))) (pC [9,78,111,82,111,119]))))) AW) (AD (AV (PW.J (BX (AS E7 (pv 8) AC) (Ba (AS (YA K hu) nt DS)))) (AD (AO 10 (AN (Q0 T) hr (pF l' (A6 B ma (pC [107,105,110,100,115])) nc))) (AD (DC B nt nS (pv 10) rfl) (AE (AJ (Az (pk (AI AM (AI AM (AI AM (pC [114,111,119,32]) nS) (pC [32])) (pv 10)) (pC [111,107]))))))) AW) (AD (AV (AS (Af K hu) (pv 8) AC) (AD (AO 11 (AH K (Ad (pk (pC [9,78,111,78,97,109,101]) (pC [111,107]))) (BA CV rfl (T.N 5) oP (pe (X1 (X3 B ov nt) dp))))) (AD (Au (UY nt ov Ar ⟨rfl,rfl,rfl,rfl⟩)) (AE (AJ (Az (pk (AI AM (pC [100,114,111,112,32]) ov) (pv 11))))))) AW) (AD (AV (AS E7 (pv 8) AC) (AD (AV (Dw (ER B ov nt) dp) (AE (AJ (Az (pk (AI AM (AI AM (AI AM (pC [116,117,114,110,32]) nS) (pC [32])) ov) (pC [9,78,111,78,97,109,101]))))) AW) (AD (DC B nt nS (Aa (Kg T) hr BI (pk (A6 B ma (pC [107,105,110,100,115])) (A6 B nt ov))) rfl) (AE (AJ (Az (pk (AI AM (AI AM (AI AM (pC [116,117,114,110,32]) nS) (pC [32])) ov) (pC [111,107]))))))) AW) (AD (AO 10 (Ax K oO oW oV (HR K) (pC [32]) (pe (Ad (AA (pC [98,101,104,105,110,100]) (pF nS ov oD)))))) (AD (AV (PW.J (BX (Dw (ER B ov nt) dp) (Ba (Dw (ER B oD nt) dp)))) (AE (AJ (Az (pk (pv 10) (pC [9,78,111,78,97,109,101]))))) AW) (AD (AV (AS Cf (Al K (T.N 7) (pe (AI AM (A6 B nt ov) (A6 B nt oD)))) AC) (AE (AJ (Az (pk (pv 10) (pC [9,78,111,76,105,110,101]))))) AW) (AD (DC B nt nS (AI AM (A6 B nt ov) (A6 B nt oD)) rfl) (AE (AJ (Az (pk (pv 10) (pC [111,107]))))))))))))))))),?_⟩;show⟨M, .b d,rfl,pG.k (k:=pA [107,101,112,116]) e1,?_⟩;show⟨3,rfl,by decide,by decide,?_⟩;refine Ha (n:=3) (small oY) (λD j ys H'=>∃ws:List gk,ys=ws.map tx/\ws.length=j/\(∀w∈ws,w∈ns)/\D≠p/\H' nl=ae (.a (ns.map tx))/\nl≠D/\Po H' p/\pf p H H') (λD hD=>⟨[],rfl,rfl,(λ_ z=>nomatch z),po.Z hD,AL hD _ _ _ b4,AQ b4 hD,po.J (AL hD _),pf.Z (AL hD _)⟩) (λD ys H3 hD hy ⟨ws,ey,a5,Y,a0,gn,a4,p3,s3⟩=>?_) ?_
 rotate_left
 .intro D j ys H3 hD hj hy hl z_;obtain⟨ws,rfl,a5,Y,a0,gn,a4,p3,s3⟩:=z_;show CQ ?_;show BN (.inl (pq.J gn)) ?_;rw[az];show Ae p3 oZ oZ (λr4 H4 b8 b7 p4 Z=>?_);obtain⟨x,ex,hx⟩:=Fz (l:=ns) (i:=r4) b8 b7;show AK (pq.J (Z _ _ gn n3)) (v:=tx x) (F2 tx ex) ?_;refine B8 hj (small oY) (Z _ _ hy a0) hl ⟨ws++[x],by rw[b0];rfl,by simp[a5],λw hw=>(cS.mp hw).elim (Y w) λz=>by rw[aS.mp z];exact hx,a0,by rw[AG a4];exact Z _ _ gn n3,a4,?_,λb o z zn=>?_⟩
  .obtain⟨a,b,c,e⟩:=p4;exact⟨a,b,c,by rw[AG (Ne.symm a0)];exact e⟩
  .have c1:b≠D:=AQ z hD;rw[AG c1];exact Z b o (s3 b o z zn) zn
 subst ey;obtain⟨s,g,r,rfl⟩:∃s g r,ws=[s,g,r]:=by
  match ws,a5 with
  |[a,b,c],_=>exact⟨a,b,c,rfl⟩
 have N1:Nm s:=b3 _ (Y _ b');have N2:Nm g:=b3 _ (Y _ b');have N3:Nm r:=b3 _ (Y _ b');show⟨D,[tx s,tx g,tx r],rfl,pq.J hy,rfl,?_⟩;show Ae p3 oY oY (λc6 H4 w0 c7 p4 Z=>?_);have Z:=s3.J Z;have f1:=Z _ _ e1 n1;have f2:=Z _ _ e2 n2;clear s3 p3 gn a4 Y a5 hy a0;have l1:=N1.b;have l2:=N2.b;have l3:=N3.b;have c2:∀x,H4 x=none->H x=none:=λx hx=>Z.qS p4 hx;have A:∀ (G:Hp) (T:Addr) (l a2:gk),Po G p->pf p H4 G->G T=none->De kk u l a2 kk u->Q (.b T) (upd G T (.b [tx l,tx a2])):=λG T l a2 pg sg I hN=>by
  have t:=AL I (.b [tx l,tx a2]);exact q T l a2 d kk u _ (pg.J t) ⟨t _ _ (sg _ _ f1 n1),t _ _ (sg _ _ f2 n2)⟩ (.inl rfl) nsq ⟨_,t _ _ (sg _ _ f2 n2)⟩ (λb o z zn=>t _ _ (sg _ _ (Z b o z λe=>zn (by simp[e])) λe=>zn (by simp[e]))) AF hN
 have a3:∀ (G:Hp) (T:Addr) (l:gk) (kv:Kv),Po G p->FB [p,d] H4 G->G d=ae (.d kv)->G T=none->De kk u l rP kk kv->Q (.b T) (upd G T (.b [tx l,tx rP])):=λG T l kv pg S gq I hN=>by
  have t:=AL I (.b [tx l,tx rP]);exact q T l _ d kk kv _ (pg.J t) ⟨t _ _ (S _ _ f1 (by simp[n1,nsq])),t _ _ gq⟩ (.inl rfl) nsq ⟨_,t _ _ gq⟩ (λb o z zn=>t _ _ (S _ _ (Z b o z λe=>zn (by simp[e])) λe=>zn (by simp at e;rcases e with e|e<;>simp[e]))) AF hN
 show qu (λhw=>?_) (λhw=>?_)
 .show Ae p4 oY oY (λa1 U b6 b5 p5 X=>?_);have X:=Z.J X;have g1:=X _ _ e1 n1;obtain⟨n,en⟩:∃n:Nat,1+a1=(n:Int):=⟨(1+a1).toNat,by lia⟩;ext;rw[en];refine⟨M,_,rfl,qX.k (k:=pA A8) g1 (B5 (show 2<=1000 by decide)),?_⟩;rw[VF];ext;intro V b2;ext;have b1:U V=none:=by
   by_cases e:V=M
   .subst e;rw[AF]at b2;cases b2
   .rwa[AG e]at b2
  have nq:M≠V:=λe=>by rw[e,b1]at g1;cases g1
  refine⟨M,_,rfl,qX.k (k:=pA [107,101,112,116]) (ph:=[(pA A8, .a (n:Int)),(pA [107,101,112,116], .b d)]) (by rw[AG nq];exact AF) (B5 (show 2<=1000 by decide)),?_⟩;rw[VE];have S:FB [M] U (upd (upd (upd U M (.d [(pA A8, .a (n:Int)),(pA [107,101,112,116], .b d)])) V (.d [])) M (.d [(pA A8, .a (n:Int)),(pA [107,101,112,116], .b V)])):=((FB.J _ _).tE b').new b1|>.tE b'
  have h1:=AF (H:=upd (upd U M (.d [(pA A8, .a (n:Int)),(pA [107,101,112,116], .b d)])) V (.d [])) (a:=M) (o:= .d [(pA A8, .a (n:Int)),(pA [107,101,112,116], .b V)]);have h2:(upd (upd (upd U M (.d [(pA A8, .a (n:Int)),(pA [107,101,112,116], .b d)])) V (.d [])) M (.d [(pA A8, .a (n:Int)),(pA [107,101,112,116], .b V)])) V=ae (.d []):=by rw[AG nq.symm];exact AF
  generalize upd (upd (upd U M _) V _) M _=J at*
  show Cr (dE (show n<=4 by lia) bg) ?_;have ll:=DA 0 n oZ;show⟨small (n:=2) oY,λT I=>?_⟩;have t7:=AL I (.b [tx ([107,105,110,100,115,32]++Ab n),tx [111,107]]);exact q T (jn [A8,Ab n]) rP V n [] _ ((GI p5 S (by simpa using n1.symm)).J t7) ⟨t7 _ _ h1,t7 _ _ h2⟩ (.inr (X.qS p5 b1)) nq ⟨_,t7 _ _ (S _ _ (X _ _ e2 n2) (by simpa using nsq.symm))⟩ (λb o z zn=>t7 _ _ (S _ _ (X b o z λe=>zn (by simp[e])) λe=>zn (by simp at e;simp[e]))) AF (.a n oZ oZ)
 show qu (λhw=>?_) (λhw=>?_)
 .show⟨small (n:=4) oY,λy hy=>?_⟩;have t1:=AL hy (.a [tx [110,97,109,101,115,32],tx [115,104,111,119],tx [116,117,114,110,32,97],tx [114,111,119,32,97]]);have g1:(upd H4 y (.a [tx [110,97,109,101,115,32],tx [115,104,111,119],tx [116,117,114,110,32,97],tx [114,111,119,32,97]])) y=ae (.a (wu.map tx)):=AF;have ny:=p4.Z hy;have p5:=p4.J t1;generalize upd H4 y _=U at*
  show Ae p5 oY oY (λa1 J b6 b5 E R=>?_);obtain⟨x,ex,hx⟩:=Fz (l:=wu) (i:=a1) b6 b5;show AK (pq.J (R _ _ g1 ny)) (v:=tx x) (F2 tx ex) ?_;show⟨small (n:=2) oY,λT I=>?_⟩;exact A J T x _ E ((pf.Z t1).J R) I (.j x hx)
 show Nz (co:=λG=>Po G p/\pf p H4 G) (λG ⟨pg,sg⟩=>?_) (λ_=>⟨p4,pf.mp _ _⟩) (λc9 a6=>?_)
 .show⟨M, .a kk,rfl,pG.k (k:=pA A8) (sg _ _ f1 n1),?_⟩;show Sk pg k1 k4 m1 b9 (λC G2 d0 a7 E R=>?_);have s7:=sg.J R;have lr:=Ai a7;have S:FB [p,d] H4 (upd G2 d (.d (putK u (pA s) (tx C)))):=((FB.J _ _).mt s7 b').tE b';have g2:=AF (H:=G2) (a:=d) (o:= .d (putK u (pA s) (tx C)));have p7:Po (upd G2 d (.d (putK u (pA s) (tx C)))) p:=GI (bad:=[d]) E ((FB.J _ _).tE b') (by simpa using n2.symm);show⟨d,_,rfl,qX.k (k:=pA s) (s7 _ _ f2 n2) (B5 oZ),?_⟩;generalize upd G2 d _=G3 at*
  show⟨small (n:=2) oY,λT I=>?_⟩;rw[show [114,111,119,32]++s++[32]++C=jn [E9,s,C] by simp[jn]];exact a3 G3 T _ _ p7 S g2 I (.h s C N1 a7)
 ext;intro e0 c0;ext;have t5:=AL c0 (.d []);refine⟨d,e0,u,rfl,rfl, .inl (t5 _ _ f2), .inl AF,?_⟩;have p5:=p4.J t5;have X:=pf.Z (p:=p) t5;generalize upd H4 e0 _=U at*
 show qu (λhk=>a6 U ⟨p5,X⟩) (λhk=>?_);clear a6;show qu (λhw=>?_) (λhw=>?_)
 .show⟨small (n:=2) oY,λy a8=>?_⟩;have t2:=AL a8 (.a [tx [9,78,111,78,97,109,101],tx [111,107]]);have g2:=AF (H:=U) (a:=y) (o:= .a [tx [9,78,111,78,97,109,101],tx [111,107]]);have E:=p5.J t2;have R:=X.J (pf.Z t2);have f6:=R _ _ f2 n2;generalize upd U y _=J at*
  show⟨d,_,rfl,pG.k (k:=pA g) f6,?_⟩;ext;have e3:pY [tx DB,tx rP] (if(AT u (pA g)).isSome=true then 1 else 0)=ae (tx (if(AT u (pA g)).isSome=true then rP else DB)):=by
   cases(AT u (pA g)).isSome<;>rfl
  refine AK (pq.J g2) e3 ?_;show Vb ?_;show⟨d,rfl, .inl ⟨_, .inl f6⟩,?_⟩;ext;have ed:[100,114,111,112,32]++g=jn [D4,g]:=by simp[jn]
  refine⟨u,pA g,f6,rfl,λv L=>?_,λL=>?_⟩
  .have S:FB [p,d] H4 (upd J d (.d (Bd u (pA g)))):=((FB.J _ _).mt R b').tE b';have p7:Po (upd J d (.d (Bd u (pA g)))) p:=GI (bad:=[d]) E ((FB.J _ _).tE b') (by simpa using n2.symm);have g7:=AF (H:=J) (a:=d) (o:= .d (Bd u (pA g)));generalize upd J d _=H7 at*
   rw[L];ext;rw[ed];refine⟨small (n:=2) oY,λT I=>?_⟩;exact a3 H7 T _ _ p7 S g7 I (.b g v N2 L)
  .rw[L];ext;rw[ed];refine⟨small (n:=2) oY,λT I=>?_⟩;exact A J T _ _ E R I (.d g N2 L)
 ext;have f5:=X _ _ f2 n2;have c3:=X _ _ f1 n1;have putK:∀ (G:Hp) (a:gk),Po G p->pf p H4 G->Po (upd G d (.d (putK u (pA s) (tx a)))) p/\FB [p,d] H4 (upd G d (.d (putK u (pA s) (tx a)))):=λG a pg sg=>⟨GI (bad:=[d]) pg ((FB.J _ _).tE b') (by simpa using n2.symm),((FB.J _ _).mt sg b').tE b'⟩;refine qu (λhw=>?_) (λhw=>?_)
 .have et:[116,117,114,110,32]++s++[32]++g=jn [Ex,s,g]:=by simp[jn]
  show⟨d,_,rfl,pG.k (k:=pA g) f5,?_⟩;ext
  cases L:AT u (pA g)with
  |none=>
   refine pK rfl ?_;ext;rw[et];refine⟨small (n:=2) oY,λT I=>?_⟩;exact A U T _ _ p5 X I (.f s g N1 N2 L)
  |some v=>
   refine pL rfl ?_;ext;obtain⟨a,rfl,ha⟩:=a9.Z L;refine⟨M, .a kk,rfl,pG.k (k:=pA A8) c3,?_⟩;show⟨d,_,rfl,by rw[<-L];exact pG.k (k:=pA g) f5,?_⟩;show Jy k1 k4 ha (λJ t6=>?_);have E:=p5.J t6;have R:=X.J (pf.Z t6);obtain⟨p7,S⟩:=putK J (ub a) E R;have g7:=AF (H:=J) (a:=d) (o:= .d (Lake.putK u (pA s) (tx (ub a))));show⟨d,_,rfl,qX.k (k:=pA s) (t6 _ _ f5) (B5 oZ),?_⟩;generalize upd J d _=H7 at*
   ext;rw[et];refine⟨small (n:=2) oY,λT I=>?_⟩;exact a3 H7 T _ _ p7 S g7 I (.c s g a N1 N2 L ha)
 show⟨small (n:=4) oY,λy a8=>?_⟩;have t2:=AL a8 (.a [tx [98,101,104,105,110,100],tx s,tx g,tx r]);have g2:(upd U y (.a [tx [98,101,104,105,110,100],tx s,tx g,tx r])) y=ae (.a ([Cm,s,g,r].map tx)):=AF;have f6:=t2 _ _ f5;have E:=p5.J t2;have R:=X.J (pf.Z t2);generalize upd U y _=J at*
 show Hr oY (pq.J g2) (by simp only[List.flatten_cons,List.flatten_nil,aN,aJ,List.length_nil];lia) ?_;rw[show BQ [32] [Cm,s,g,r]=jn [Cm,s,g,r] by simp[BQ,jn]];show⟨d,_,rfl,pG.k (k:=pA g) f6,?_⟩;ext
 cases L:AT u (pA g)with
 |none=>
  refine pK rfl ?_;refine pK rfl ?_;show⟨small (n:=2) oY,λT I=>?_⟩;exact A J T _ _ E R I (.e s g r N1 N2 N3 (.inl L))
 |some v=>
  refine pL rfl ?_;show⟨d,_,rfl,pG.k (k:=pA r) f6,?_⟩;ext
  cases O:AT u (pA r)with
  |none=>
   refine pK rfl ?_;show⟨small (n:=2) oY,λT I=>?_⟩;exact A J T _ _ E R I (.e s g r N1 N2 N3 (.inr O))
  |some v2=>
   refine pL rfl ?_;ext;obtain⟨a,rfl,ha⟩:=a9.Z L;obtain⟨b,rfl,hb⟩:=a9.Z O;have la:=Ai ha;have lb:=Ai hb;have c8:(a++b).length<=80:=by rw[aN];lia
   refine⟨d,_,rfl,by rw[<-L];exact pG.k (k:=pA g) f6,?_⟩;show⟨d,_,rfl,by rw[<-O];exact pG.k (k:=pA r) f6,?_⟩;show qu (λh4=>?_) (λh4=>?_)
   .show⟨small (n:=2) oY,λT I=>?_⟩;exact A J T _ _ E R I (.g s g r a b N1 N2 N3 L O ha hb oZ)
   .show⟨d,_,rfl,by rw[<-L];exact pG.k (k:=pA g) f6,?_⟩;show⟨d,_,rfl,by rw[<-O];exact pG.k (k:=pA r) f6,?_⟩;obtain⟨p7,S⟩:=putK J (a++b) E R;have g7:=AF (H:=J) (a:=d) (o:= .d (Lake.putK u (pA s) (tx (a++b))));show⟨d,_,rfl,qX.k (k:=pA s) f6 (B5 oZ),?_⟩;generalize upd J d _=H7 at*
    show⟨small (n:=2) oY,λT I=>?_⟩;exact a3 H7 T _ _ p7 S g7 I (.i s g r a b N1 N2 N3 L O ha hb oZ)
def QZ:Ak P w K mg base (k+10) "_law_asked" ["pool","state","names"] (uM):=pJ.J (T.f.J 77) (pI ["pool","state","names","kept","name","head","more","row"]) @λ_ _ _ _ _ _ Q _ nd H M h=>by
 obtain⟨p,O,J,nl,S,A,ns,rfl,po,U,X,n3,k1,k4,L,b5,a4,b1,a8,q⟩:=h;have hu:=M.J;have d:=Ay M;obtain⟨Y,e2⟩:=id U;have n1:=po.ld Y λa b c z=>by cases z
 have n2:=po.ld e2 λa b c z=>by cases z
 refine BU ⟨_,(AD (AO 3 (A6 d ma (pC [107,101,112,116]))) (AD (AO 4 (AH K mm (AN (Ag T) M (pk l' (Al K (T.N 7) (pe mm)))))) (AD (AV (AS (Af K hu) (AN (Ag T) M (pk l' AC)) AC) (AE (AJ (Az (pk (pC [110,97,109,101,115]) (BR (AS (X7 K hu) nc DS) (Ax K oO oW oV (HR K) (pC [32]) (pe (Aj (FQ K rfl) rfl (T.N 14) PyProof.Rows.boot_sorted (pe nc)))) (pC [110,111,110,101])))))) AW) (AD (Bc (Aa (P4 T) M BI (pF l' (A6 d ma (pC [107,105,110,100,115])) (Ub d nc nt (pC [40,41]) ⟨rfl,rfl,rfl,rfl⟩))) (B2 (n:=2) K rfl (Ao (Ah 5) (Ao (Ah 6) Bh)))) (AD (AO 7 (AI AM (AI AM nS (pC [32])) nt)) (AD (AV (AS (Cv K) nS (Ad (pk (pC [110,116,104]) (pC [110,117,109,98,101,114]))) dp) (AE (AO 7 (AI AM (AI AM oD (pC [32])) ov))) AW) (AD (AV (Dw (ER d nt nc) dp) (AE (AJ (Az (pk oD (pC [9,78,111,78,97,109,101]))))) AW) (AE (AJ (Az (pk oD (AN (Rc T) M (AA (A6 d ma (pC [107,105,110,100,115])) (pF nS (A6 d nc nt) ov)))))))))))))),?_⟩;show⟨O, .b J,rfl,pG.k (k:=pA [107,101,112,116]) Y,?_⟩;show BN (.inl (pq.J X)) ?_;rw[az];show Ae po oZ oZ (λr1 H1 a1 a0 p1 s1=>?_);obtain⟨x,ex,hx⟩:=Fz (l:=ns) (i:=r1) a1 a0;have N:=a4 x hx;have l1:=N.b;show AK (pq.J (s1 _ _ X n3)) (v:=tx x) (F2 tx ex) ?_;show Ae p1 oY oY (λr2 H2 b0 a9 p2 R=>?_);have R:=s1.J R;have f1:=R _ _ Y n1;have Z:=R _ _ e2 n2;clear s1 p1;have m:∀ (G:Hp) (T:Addr) (l j:gk),Po G p->pf p H G->G T=none->As S A l j->Q (.b T) (upd G T (.b [tx l,tx j])):=λG T l j V r y hA=>by
  have t:=AL y (.b [tx l,tx j]);exact q T l j _ (V.J t) (r.J (pf.Z t)) AF hA
 show qu (λhw=>?_) (λhw=>?_)
 .obtain⟨ss,hk,b3,b2⟩:=L.J;ext;intro e0 a7;have E:=AL a7 (.d []);show⟨J,e0,A,rfl,rfl, .inl (E _ _ Z), .inl AF,?_⟩;have p3:=p2.J E;have I:=R.J (pf.Z E);have f3:=E _ _ Z;generalize upd H2 e0 _=D at*
  refine⟨_,rfl,?_⟩
  cases z:decide (A=[])with
  |true=>
   refine pL rfl ?_;have z:=of_decide_eq_true z;subst z;show⟨small (n:=2) oY,λT y=>?_⟩;exact m D T _ _ p3 I y (.a [] ⟨[],rfl,by decide, .nil,rfl⟩ λ_ h=>nomatch h)
  |false=>
   refine pK rfl ?_;have z:=of_decide_eq_false z;show⟨J,A,ss,rfl, .inl f3,hk,by lia,λl2 ts a6 a3 a2=>?_⟩;obtain⟨g,rfl⟩:∃g,ts=CP g:=⟨_,(MQ ts).symm⟩;rw[Fh];have U:vA A g:=⟨ss,hk,by lia,a3,a2⟩;have hm:=U.ap L;have hl:=U.J;have h8:∀n∈g,n.length<=8:=λn hn=>(hm n hn).1.b;have h9:=GO h8;have a5:g≠[]:=λe=>z (List.eq_nil_of_length_eq_zero (by rw[<-hl.1,e];rfl));have t4:=AL a6 (.a (g.map tx));have g4:=AF (H:=D) (a:=l2) (o:= .a (g.map tx));have p4:=p3.J t4;have s4:=I.J (pf.Z t4);generalize upd D l2 _=H4 at*
   show Hr oY (pq.J g4) oZ ?_;rw[show BQ [32] g=vF g by rw[vF,aP a5]];refine⟨small (n:=2) oY,λT y=>?_⟩;exact m H4 T _ _ p4 s4 y (.a g U λn hn=>(hm n hn).1)
 show⟨O, .a S,rfl,pG.k (k:=pA A8) f1,?_⟩;show⟨J,rfl, .inl ⟨_, .inl Z⟩,?_⟩;show⟨_,pG.k (k:=pA x) Z,?_⟩;obtain⟨a,ea,ra,hv⟩:=Xl k1 k4 L x;rw[ea];show⟨p,S,a,rfl,p2,k1,k4,ra,λT' dd C b D _ p3 I hq B hb b4 gT=>?_⟩;have I:=R.J I;have f1:=I _ _ Y n1;have Z:=I _ _ e2 n2;refine DV (pX.J gT) rfl ?_;show BO (small (by have:=HC dd;show _+1<=1000;lia)) ?_;ext;have w1:=HC dd;have m1:=Mu (dd:=dd) B hb;refine BO (small (by rw[aN];show _+1+_<=1000;lia)) ?_;refine OM ?_;refine Y4 (λs G=>s=[ae (.b p),ae (.b O),ae (.b nl),ae (.b J),ae (tx x),ae (tx dd.J),ae (tx (wx C b dd)),ae (tx (jn (dd.J::uW x C b dd)))]/\Po G p/\pf p H G) ?_ (λu=>?_)
 rotate_left
 .show⟨small (n:=2) oY,λz hz=>?_⟩;refine GG (.inl (pq.J AF)) rfl rfl ?_;have t7:=AL hz (.a [tx [110,116,104],tx [110,117,109,98,101,114]]);have p7:=p3.J t7;have s7:=I.J (pf.Z t7);generalize upd D z _=G7 at*
  rw[zx];show y' _ u (λe N hN=>?_) (λe=>⟨by rw[<-PM e];rfl,p7,s7⟩);ext;exact⟨by rw[<-PN e];rfl,p7,s7⟩
 rintro s G ⟨rfl,V,r⟩
 dsimp only
 have g1:=r _ _ Y n1;have g2:=r _ _ e2 n2;show⟨J,_,rfl,pG.k (k:=pA x) g2,?_⟩;ext;rcases hv with hv|hv
 .rw[hv];refine pK rfl ?_;show⟨small (n:=2) oY,λT y=>?_⟩;exact m G T _ _ V r y (.c dd x b C hq N B hb hv)
 .rw[hv];refine pL rfl ?_;show⟨O, .a S,rfl,pG.k (k:=pA A8) g1,?_⟩;show⟨J,_,rfl,by rw[<-hv];exact pG.k (k:=pA x) g2,?_⟩;show⟨S,dd,a,C,b,rfl,k1,k4,ra,hq,B,by lia,λt G8 s8 du=>?_⟩;show⟨small (n:=2) oY,λT y=>?_⟩;exact m G8 T _ _ (V.J s8) (r.J (pf.Z s8)) y (.b dd x b a C t hq N B hb hv ra du)
def J7:Ak P w K mg base (k+10) "_law_end" ["desk","kept"] (vP aE):=pJ.J (T.f.J 78) (pI ["desk","kept"]) λnd H x h=>by
 obtain⟨d,r,c,kk,g,rfl,p,M,Q,k1,k4,b,a6,q⟩:=h;have S:=x.J;have U:=Ay x;obtain⟨ss,hk,a5,a4⟩:=b.J;refine BU ⟨_,(AD (AV (AS (CA K S) (Mm T.E.a (QM T) x l') (Aj (FQ K rfl) rfl (T.N 14) PyProof.Rows.boot_sorted (pe ma))) (AE (AJ Cz)) AW) (AE (AJ (BP (Af K S) (BE (own:=["name"]) (sel:=[0,1]) (A9 (osc:=(AX (top 121))) (N:=["desk","kept"]) bg) rfl (Vw ma) (λ_ _ _ _ _=>(Am (i:=0) (show(["name","desk","kept"]:hE).Nodup from by decide +kernel) rfl (lY rfl))) (Av oY) (λ_ _ _ _ _=>Fl (AS (CA K S) (Ml T.E.a (Jo T) x BI ma (pe (AI AM (pC [115,104,111,119,32]) l'))) (AN (EL T) x (pe (A6 U mm l'))))) (λ_ _ _ _ _=>l')) (Ad AB))))),?_⟩;obtain⟨⟨dx,X⟩,_⟩:=id p;show⟨d,dx,_,rfl,X,rfl,?_⟩;show⟨d,r,kk,g,ss,rfl,p,hk,by lia,λtl ns H2 a3 s2 g2 hS=>?_⟩;have hl:=hS.J;have u:(ns.map tx).all BB=true:=by rw[List.all_map,List.all_eq_true];intro _ _;rfl
 show⟨c,g,ss,rfl, .inl (s2 _ _ M),hk,by lia,λl2 a1 Y y z=>?_⟩;have eU:=hS.Z hk y z;subst eU;rw[Fh];have V:=AL Y (.a (ns.map tx));refine Yx (pq.J (V _ _ g2)) (pq.J AF) u u ?_;rw[K0 u];have Z:=s2.J V;generalize upd H2 l2 _=J at*
 show pL rfl ?_;ext;have f2:=Z _ _ M;have n:=p.J Z;refine VZ ?_;show⟨c,g,rfl,f2,λo=>?_⟩;have g4:=AF (H:=J) (a:=c) (o:= .e o (.d g));have B:FB [c] J (upd J c (.e o (.d g))):=(FB.J _ _).tE b';have nd:d≠c:=λe=>by rw[e,M]at X;cases X
 have m:=n.ap B (by simpa using nd) (by simpa using Q);generalize upd J c _=H4 at*
 refine Rv g4 (λD H6 hD L g6=>?_) ?_
 .show⟨small (n:=0) oY,λe6 l=>?_⟩;ext;have O:=AL l (.a []);refine ON (pq.J (O _ _ g6)) (pq.J AF) rfl rfl ?_;exact q _ (((FB.of Z).Z B).s (L.J O))
 .intro D i a2 v H6 R hD hx L hR;obtain⟨G,a0,ev,N1,_⟩:=b _ (cE hx);obtain⟨rfl,rfl⟩:=Prod.mk.inj ev;obtain⟨v,j⟩:∃v,AT g (pA G)=ae v:=by
   cases e:AT g (pA G)with
   |none=>exact absurd (List.mem_map.mpr ⟨_,cE hx,rfl⟩) (LE e)
   |some v=>exact⟨v,rfl⟩
  obtain⟨a,rfl,t⟩:=b.Z j;have l1:=N1.b;have la:=Ai t;have I:=m.J L;obtain⟨⟨C,A⟩,_⟩:=id I;rw[<-ZN];show⟨d,C,_,rfl,A,rfl,?_⟩;ext;rw[show [115,104,111,119,32]++G=jn [Ig,G] by simp[jn]];refine Ww I N1 j la (λH7 s7=>?_);show⟨c,tx a,rfl, .inl ⟨g,pA G, .inr ⟨o,s7 _ _ (L _ _ g4)⟩,rfl,j.symm⟩,?_⟩;show⟨a,rfl,?_⟩;ext;rw[be rfl];exact hR _ _ s7
def YC{f:Addr}(F:tZ K "law" "law" (top 122) f fd):pV P w K mg base tI (k+11) f fd ["script"] (Ln ["script"] (uo K)):=Zy F (pI ["script","desks","states","first","most","names","k","pool","at","row","due"]) @λ_ _ A _ _ _ _ _ nd H M h=>by
 obtain⟨sa,ms,rfl,c5,h9,q⟩:=h;have hu:=M.J;have c4:=Ay M;refine⟨_,(tX.J (Dp (Mf (i:=1) rfl nd rfl (lY rfl) (lY rfl) (Pl.c (Mn (JT T) M T.E.c) (Pl.c (Mn (JT T) M T.E.c) Pl.a))) (Dp (Mf (i:=2) rfl nd rfl (lY rfl) (lY rfl) (Pl.b (xn.J (Le (uz.a (pC [107,105,110,100,115]) AC (uz.a (pC [107,101,112,116]) DS uz.b)))) (Pl.b (xn.J (Le (uz.a (pC [107,105,110,100,115]) AC (uz.a (pC [107,101,112,116]) DS uz.b)))) Pl.a))) (Dp (vx.a (AO 3 (AN (Jm T) M (pk l' AC)))) (Dp (vx.a (AO 4 (AH K (Ad (AA AC (pF AC AC AC))) (AN (Ag T) M (pk nc AC))))) (Dp (vx.a (AO 5 (A1 (A7 K) (AN (QY T) M (pe nc)) A4 (A3 AC)))) (Dp (vx.a (BL oQ rfl (CI rfl (T.N 11) (pe (Aj (K4 rfl) rfl (T.N 9) PyProof.Rows.boot_max (pk AC (Aj (HA rfl) rfl (T.N 10) PyProof.Rows.boot_min (pk AC (Al K (T.N 7) (pe l')))))))) (Ah 6) (AD (AO 7 (AN (Jm T) M (pk l' ov))) (AD (AO 8 (BA CV rfl (T.N 5) oP (pe (BP (Af K hu) (AN (Ag T) M (pk oD AC)) AC)))) (AD (AV (AS (Af K hu) (AN (Ag T) M (pk oD AC)) AC) (AE (Bc (Aa (Q1 T) M BI (AA oD (pF (AH K mm (pv 8)) nS nt))) (B2 (n:=2) K rfl (Ao (Ah 9) (Ao (Ah 10) Bh))))) (AE (Bc (Aa (QZ T) M BI (pF oD (AH K mm (pv 8)) nS)) (B2 (n:=2) K rfl (Ao (Ah 9) (Ao (Ah 10) Bh)))))) (AE (AV (AS (CA K hu) (AN (Qz T) M (pk (AH K ma (pv 8)) (pv 9))) (pv 10)) (AE (AJ Cz)) AW))))))) (UN (vx.a (AJ (Er (Aa (J7 T) M BI (pk (AH K ma AC) (A6 c4 (AH K mm AC) (pC [107,101,112,116])))) (DY (Aa (J7 T) M BI (pk (AH K ma AC) (A6 c4 (AH K mm AC) (pC [107,101,112,116])))))))))))))))),?_⟩;clear hu c4 M;simp only[FC];ext;intro d dx hd f1 g7;ext;have sd:pj H (upd (upd H dx (HO.f d)) d (HO.c aE dx [])):=λb o z=>by rw[AG (AQ z hd),AG (AQ z f1)];exact z
 refine⟨d,dx,rfl,AF,λr G1 e5 f8 y=>⟨rfl,?_⟩⟩;have s1:pj H G1:=λb o z=>f8 _ _ (sd _ _ z) (by simp only[aS];exact AQ z hd);have e6:H r=none:=sd.Z e5;clear sd f8 e5 g7;ext;intro d' c9 a8 c0 e9;ext;have so:pj G1 (upd (upd G1 c9 (HO.f d')) d' (HO.c aE c9 [])):=λb u z=>by rw[AG (AQ z a8),AG (AQ z c0)];exact z
 refine⟨d',c9,rfl,AF,λr' G2 e4 f7 I=>⟨rfl,?_⟩⟩;have s2:pj G1 G2:=λb u z=>f7 _ _ (so _ _ z) (by simp only[aS];exact AQ z a8);have a6:G1 r'=none:=so.Z e4;have e0:d≠d':=λe=>by
  obtain⟨⟨_,z⟩,_⟩:=y;rw[e,a8]at z;cases z
 have d9:r≠r':=λe=>by
  have z:=y.2;rw[e,a6]at z;cases z
 have y:=y.J s2;have s2:=s1.J s2;have c1:H d'=none:=s1.Z a8;have b6:H r'=none:=s1.Z a6;clear so f7 e4 c0 e9 a8 a6 s1 f1;refine⟨small (n:=2) oY,λD hD=>?_⟩;have t3:=AL hD (.a [.b d, .b d']);have gD:=AF (H:=G2) (a:=D) (o:= .a [.b d, .b d']);have y:=y.J t3;have I:=I.J t3;have s3:=s2.J t3;generalize upd G2 D _=G3 at*
 clear t3 hD s2;ext;intro st a5;refine LY ?_;ext;intro qd c7;refine⟨by rw[AG (AQ AF c7)];exact AF,[(pA A8, .a 4),(pA [107,101,112,116], .b qd)],rfl,(show 2<=15 by decide),?_⟩;obtain⟨Z,k1,d7,b2⟩:=NU a5 c7
 change CB _ _ _ (uY G3 st qd) _
 have d8:=AQ y.2 a5;have nrs':=AQ I.2 a5;have nrq:=AQ y.2 b2;have nrq':=AQ I.2 b2;have gD:=Z _ _ gD;have y:=y.J Z;have I:=I.J Z;have Z:=s3.J Z;generalize uY G3 st qd=G4 at*
 have b5:H st=none:=s3.Z a5;have e7:H qd=none:=s3.Z b2;clear s3 a5 c7 b2;ext;intro R B;refine LY ?_;ext;intro v a7;refine⟨by rw[AG (AQ AF a7)];exact AF,[(pA A8, .a 4),(pA [107,101,112,116], .b v)],rfl,(show 2<=15 by decide),?_⟩;obtain⟨s,k2,b4,Q⟩:=NU B a7;unfold uY at s k2;generalize upd (upd (upd G4 R _) v _) R _=G5 at*
 have g6:=k1;obtain⟨b1,b0⟩:=k1;have A:vE d st d' R ⟨r,qd,4,[]⟩ ⟨r',v,4,[]⟩:=⟨e0,d9,AQ y.2 B,AQ y.2 Q,AQ b1 B,AQ b1 Q,AQ b0 Q,nrs'.symm,nrq'.symm,AQ b0 B⟩;have O1:sP aE G5 0 d st ⟨r,qd,4,[]⟩:=⟨y.J s,⟨s _ _ b1,s _ _ b0⟩,(show(1:Int)<=4 by decide),Int.le_refl 4,Rw.ld _,Nat.le_refl _,d8,nrq,d7⟩;have O2:sP aE G5 0 d' R ⟨r',v,4,[]⟩:=⟨I.J s,k2,(show(1:Int)<=4 by decide),Int.le_refl 4,Rw.ld _,Nat.le_refl _,AQ I.2 B,AQ I.2 Q,b4⟩;have gD:=s _ _ gD;have s:=Z.J s;have a4:H R=none:=Z.Z B;have b7:H v=none:=Z.Z Q;clear y I b1 b0 g6 k2 d8 nrs' nrq nrq' d7 b4 B a7 Q Z e0 d9;show⟨small (n:=2) oY,λS hS=>?_⟩;have t6:=AL hS (.a [.b st, .b R]);have gS:=AF (H:=G5) (a:=S) (o:= .a [.b st, .b R]);have gD:=t6 _ _ gD;have O1:=O1.J t6;have O2:=O2.J t6;have s6:=s.J t6;generalize upd G5 S _=G6 at*
 clear t6 hS s;show Kd (s6.ld c5) oY oY (λp0 G7 c8 s7 c2=>?_);show⟨small (n:=4) oY,λz hz=>?_⟩;have t8:=AL hz (.a [V.a 40,V.a 10,V.a 10,V.a 10]);have gz:=AF (H:=G7) (a:=z) (o:= .a [V.a 40,V.a 10,V.a 10,V.a 10]);have nz:=c2.Z hz;have d2:=c2.J t8;have s8:=s7.J t8;generalize upd G7 z _=G8 at*
 clear t8 c2 s7 hz;show Ae d2 oY oY (λr9 G9 g2 g1 d0 s9=>?_);obtain⟨mo,em,m1,g5⟩:∃mo:Int,pY [V.a 40,V.a 10,V.a 10,V.a 10] r9=ae (.a mo)/\1<=mo/\mo<=40:=by
  have:r9=0\/r9=1\/r9=2\/r9=3:=by lia
  rcases this with rfl|rfl|rfl|rfl
  .exact⟨40,rfl,by decide,by decide⟩
  .exact⟨10,rfl,by decide,by decide⟩
  .exact⟨10,rfl,by decide,by decide⟩
  .exact⟨10,rfl,by decide,by decide⟩
 refine AK (pq.J (s9 _ _ gz nz)) em ?_;have s9:=pf.ld s8 s9 c8;clear em gz nz g2 g1 s8 d2;show⟨p0,rfl,d0,λL0 U g0 g8 d5 a9 f6 b8 h1 g9=>?_⟩;have a9:=pf.ld s9 a9 c8;clear s9 d0 g8;show E3 (pq.J f6) (λL hL=>?_);have ec:C7 (U.map tx) none (ae 5)=(U.take 5).map tx:=by
  rw[List.map_take];exact Bn _ oY
 rw[ec];have f0:1<=(U.take 5).length:=by rw[cU];lia
 have b9:(U.take 5).length<=10:=by rw[cU];lia
 have e8:∀n∈U.take 5,Nm n:=λn h=>b8 n (fR h);have gL:=AF (H:=g0) (a:=L) (o:= .a ((U.take 5).map tx));have sA:=a9.J (AL hL (.a ((U.take 5).map tx)));generalize U.take 5=ns at*
 generalize upd g0 L _=h7 at*
 obtain⟨C,g,X,J,F0⟩:∃ (C g:Nat->Addr) (X:Nat->wD),W5 aE h7 0 D S L C g ns X/\∀i,i<2->H (C i)=none/\H (g i)=none/\H (X i).q=none/\H (X i).r=none:=⟨λj=>if j=0 then d else d',λj=>if j=0 then st else R,λj=>if j=0 then⟨r,qd,4,[]⟩else⟨r',v,4,[]⟩,⟨λi hi=>by
  have:i=0\/i=1:=by lia
  rcases this with rfl|rfl
  .exact O1.J sA
  .exact O2.J sA,A,sA _ _ gD,sA _ _ gS,gL⟩,λi hi=>by
  have:i=0\/i=1:=by lia
  rcases this with rfl|rfl
  .exact⟨hd,b5,e7,e6⟩
  .exact⟨c1,a4,b7,b6⟩⟩
 have s0:=s6.J sA;clear O1 O2 A gD gS gL sA s6 a9 hL f6 b8 h1 g9 ec d5 c8 hd b5 e7 e6 c1 a4 b7 b6;show BN (.inl (s0.ld c5)) ?_;rw[az];ext;have hm:∀x:Int,1<=(if(if x<30 then x else 30)>1 then if x<30 then x else 30 else 1)/\(if(if x<30 then x else 30)>1 then if x<30 then x else 30 else 1)<=30:=λx=>by
  split
  .split<;>lia
  .lia
 have hm:=hm (ms.length:Int);generalize(if(if(ms.length:Int)<30 then(ms.length:Int)else 30)>1 then if(ms.length:Int)<30 then(ms.length:Int)else 30 else 1)=m at*
 refine⟨m,rfl,by lia,by lia,?_⟩;obtain⟨m',rfl⟩:∃m':Nat,m=m':=⟨m.toNat,by lia⟩;refine HW (n:=m') (λi O G=>∃X o6 o7 o8 o9 c3,O=[ae (.b sa),ae (.b D),ae (.b S),ae (.b p0),ae (.a mo),ae (.b L),o6,o7,o8,o9,c3]/\pj H G/\W5 aE G i D S L C g ns X/\∀i,i<2->H (C i)=none/\H (g i)=none/\H (X i).q=none/\H (X i).r=none) ⟨X,_,_,_,_,_,rfl,s0,J,F0⟩ ?_ ?_
 rotate_left
 .clear J s0 F0 X;intro O G z_;obtain⟨X,o6,o7,o8,o9,c3,rfl,s0,J,_⟩:=z_;ext;have O0:=J.o 0 oY;have O1:=J.o 1 oY;refine AK (pq.J J.b) (Dh _ _) ?_;show AK (pq.J J.c) (Dh _ _) ?_;show⟨g 0, .b (X 0).q,rfl,pG.k (k:=pA [107,101,112,116]) O0.a.1,?_⟩;show⟨C 0,(X 0).r,(X 0).q,(X 0).k,(X 0).a,rfl,O0.b,O0.a.2,O0.h,O0.c,O0.e,O0.f,dE O0.g oZ,λG2 f2=>⟨true,rfl,?_⟩⟩;have O1:=O0.Z O1 J.a (f2.ld λx hx=>by rw[aS.mp hx];simp);have gd:=f2 _ _ J.b (by simpa using λz=>by have:=J.b;rw[z,O0.a.2]at this;cases this);have gs:=f2 _ _ J.c (by simpa using λz=>by have:=J.c;rw[z,O0.a.2]at this;cases this);rw[aU rfl];show AK (pq.J gd) (AU (j:=1) rfl) ?_;show AK (pq.J gs) (AU (j:=1) rfl) ?_;show⟨g 1, .b (X 1).q,rfl,pG.k (k:=pA [107,101,112,116]) O1.a.1,?_⟩;ext;exact⟨C 1,(X 1).r,(X 1).q,(X 1).k,(X 1).a,rfl,O1.b,O1.a.2,O1.h,O1.c,O1.e,O1.f,dE O1.g oZ,λG3 f3=>q _⟩
 clear J s0 F0 X;intro i O G hi z_;obtain⟨X,o6,o7,o8,o9,c3,rfl,s0,J,F0⟩:=z_;show Kd (s0.ld c5) oZ oZ (λp G1 hp s1 g4=>?_);show Ae g4 oY oY (λr2 G2 _ _ g3 s2=>?_);have s2:=pf.ld s1 s2 hp;obtain⟨x,ex,hx⟩:∃x:Nat,(if decide (r2=1)=true then(1:Int)else 0)=(x:Int)/\x<2:=by
  by_cases z:r2=1
  .exact⟨1,by rw[be z];rfl,by decide⟩
  .exact⟨0,by rw[ba z];rfl,by decide⟩
 have σ:=J.o x hx;obtain⟨z1,z2,z3,z4⟩:=F0 x hx;ext;rw[ex];refine Ae g3 oY oY (λr3 G3 _ _ a0 s3=>?_);have s3:=pf.ld s2 s3 hp;have w3:=J.J s3;have Y:=σ.J s3;have nL:=AQ J.d hp;have h8:H p=none:=s0.Z hp;have h3:∀ (G5:Hp) (x':wD),(x'.r=(X x).r\/G x'.r=none)->(x'.q=(X x).q\/G x'.q=none)->FB [g x,(X x).q,C x,(X x).r] G G5->sP aE G5 (i+1) (C x) (g x) x'->∃X',pj H G5/\W5 aE G5 (i+1) D S L C g ns X'/\∀i,i<2->H (C i)=none/\H (g i)=none/\H (X' i).q=none/\H (X' i).r=none:=λG5 x' M hq f ok=>by
  refine⟨λj=>if j=x then x' else X j,λb o z=>f _ _ (s0 _ _ z) (by simp[AQ z z1,AQ z z2,AQ z z3,AQ z z4]),J.Z hx M hq f ok,λj hj=>?_⟩;obtain⟨y1,y2,y3,y4⟩:=F0 j hj;refine⟨y1,y2,?_⟩
  dsimp only
  by_cases e:j=x
  .rw[aU e];exact⟨hq.elim (λe=>e▸z3) s0.Z,M.elim (λe=>e▸z4) s0.Z⟩
  .rw[aP e];exact⟨y3,y4⟩
 show qu (λ_=>?_) (λ_=>?_)
 .show AK (pq.J w3.c) (AU (w3.at hx).2) ?_;show⟨p,g x,(X x).q,L,(X x).k,(X x).a,ns,mo,rfl,a0,Y.a,w3.d,nL,σ.j,σ.c,σ.e,σ.f,bw σ.g oZ,e8,f0,b9,m1,g5,λT l h4 q' k' e3 G4 d3 t Q d6 ⟨oq,h0⟩ f4 gT de=>?_⟩;obtain⟨d1,d4,h5,dl,_⟩:=de.J σ.c σ.e σ.f;have ln:=σ.g;have f9:=Y.b.ap f4 (by simp[a0.ld Y.b.1.choose_spec (λa b c z=>by cases z),Y.sL Y.a.1,Y.sL Y.a.2]) (by simp[a0.ld Y.b.2 (λa b c z=>by cases z),σ.i,σ.h]);refine DV (pX.J gT) rfl ?_;ext;have h2:=f4 _ _ w3.b (by
   have e1:D≠g x:=λz=>by have:=w3.b;rw[z,Y.a.1]at this;cases this
   have e2:D≠(X x).q:=λz=>by have:=w3.b;rw[z,Y.a.2]at this;cases this
   simp[AQ J.b hp,e1,e2])
  refine AK (pq.J h2) (AU (w3.at hx).1) ?_;show YZ de f9 σ.c σ.e oZ (λr5 G5 c6 f5 h6=>?_);show pL (by rw[be rfl];rfl) ?_;ext;have nrq:(X x).r≠q':=by
   rcases Q with e|e
   .rw[e];exact σ.h
   .exact AQ Y.b.2 e
  have ndq:C x≠q':=λz=>by
   obtain⟨⟨_,e1⟩,_⟩:=f9;rw[z,t.2]at e1;cases e1
  have nds:C x≠g x:=Y.sL Y.a.1;obtain⟨X',a1,a2,a3⟩:=h3 G5 ⟨r5,q',k',e3⟩ (c6.imp id λe=>by
   have b3:∃o,G3 p=ae o:=let⟨_,_,_,e⟩:=a0;⟨_,e⟩;rcases f4.free (p:=r5) (by simp[b3,Y.a.1,Y.a.2]) e with h|h
   .exact s3.Z h
   .simp at h;obtain⟨_,_,_,e1⟩:=d3;rcases h with rfl|rfl|rfl
    .rw[e1]at e;cases e
    .rw[t.1]at e;cases e
    .rw[h0]at e;cases e) (Q.imp id s3.Z) (λb o z zn=>f5 _ _ (f4 _ _ (s3 _ _ z) (by simp at zn;simp[AQ z hp,zn])) (by simp at zn;simp[zn])) ⟨h6,⟨f5 _ _ t.1 (by simp[nds.symm,σ.i.symm]),f5 _ _ t.2 (by simp[ndq.symm,nrq.symm])⟩,d1,d4,h5,bw dl (Nat.succ_le_succ ln),by
    rcases c6 with e|e
    .exact e▸σ.i
    .exact(AQ t.1 e).symm,by
    rcases c6 with e|e
    .exact e▸nrq
    .exact(AQ t.2 e).symm,d6⟩
  exact⟨X',_,_,_,_,_,rfl,a1,a2,a3⟩
 show AK (pq.J w3.c) (AU (w3.at hx).2) ?_;show⟨p,g x,(X x).q,L,(X x).k,(X x).a,ns,rfl,a0,Y.a,w3.d,nL,σ.c,σ.e,σ.f,dE σ.g oZ,e8,f0,b9,λT l h4 G4 d3 Z gT as=>?_⟩;have Z:=pf.ld s3 Z hp;have w4:=J.J Z;have O4:=σ.J Z;refine DV (pX.J gT) rfl ?_;show AK (pq.J w4.b) (AU (w4.at hx).1) ?_;show Wf as O4.b σ.c σ.e (λG5 s=>?_);show pL (by rw[be rfl];rfl) ?_;ext;have s:=Z.J s;exact⟨X,_,_,_,_,_,rfl,s0.J s,(J.J s).mp (Nat.le_succ _),F0⟩
end
def fin{l:W.OpenLaw}{K:W.Frag}{z c Z Y V U O N J I G B u m j g e i:Addr}(d:mg "law"=ae (.ref z))(T:Txt l.prog w K mg c ⟨Z,Y,V,U,O,N,J,I,G,B,u,m⟩ j g e i):∃fd:FuncData,(∀ (s:Shared) (v:Value),BindsTo s fd ⟨[v],[]⟩ [("script",v)])/\∀base:Heap,K.In base->base.Ns mainGlobals mg->pV l.prog w K mg base tI 11 z fd ["script"] (uo K):=
 let⟨fd,a,b⟩:=YF (T.f.J 79) d (λ_ _ _ _ _ _ _ _=> .of_eq rfl) λ_ _ _ F=>YC (k:=0) T F
 ⟨fd,a,λbase x y=>(b base x y).J λn H Q E h=>⟨by obtain⟨a,o,rfl,_⟩:=h;rfl,h⟩⟩
def walk{l:W.OpenLaw}{d:DefRec}(e:l.most=ae 63)(b:d.params.defaults=[])
 (i:∀ (w:World) (h:Heap),YP w h->(K w.params).In h)
 (F:∀ (w:World) (mg:Str->Option Value) (c:Addr) (h:Heap),(K w.params).In h->h.Ns mainGlobals mg->mg d.name=ae (.ref c)->
   ∃fd:FuncData,(∀ (s:Shared) (u:Value),BindsTo s fd ⟨[u],[]⟩ [("script",u)])/\∀base:Heap,(K w.params).In base->base.Ns mainGlobals mg->pV l.prog w (K w.params) mg base tI 11 c fd ["script"] (uo (K w.params))):
 W.WalkO q loose XP YP l.row.toRowW d [] (λf vs=>PySem.call f vs):=
 Lake.vH (n:=63) (k:=11) (x:="script") (CX:=λ_=>tI) (sp:=λw=>uo (K w.params)) e oY b ⟨rfl,by decide,by decide,rfl⟩ i F (λ_ _ a g j _ y=>⟨a,g,rfl,y,j,λ_=>rfl⟩) λ_ _ _ _ _ z=>z
end Bk
end
open PySem PySem.W PyProof.Rows
set_option maxRecDepth 100000 in
set_option maxHeartbeats 0 in
theorem PySem.Challenge.cw_bracketrows_k50_whole_a_long_day_holds : PySem.Challenge.rw_bracketrows_k50_whole_a_long_day.Holds := by
  w_on; o_law; k_head; (case hw => w_witness2)
  k_fill
  refine Bk.walk (l := PySem.Challenge.rw_bracketrows_k50_whole_a_long_day) rfl rfl (fun w h Y => PySem.W.kIn_of Y) ?F
  case F =>
    intro w mg fa h KX G hmg
    refine' Bk.fin hmg ⟨Lake.fnA KX G ?f, ?m, Lake.nbA KX G ?n, Lake.glA KX G ?g, Lake.clA KX G ?c, ?k, ?F, ?D, Lake.ownA KX G ?y ?z, Lake.ownA KX G ?Y ?Z, ?t⟩
    (case y | Y => k_is)
    (case f => (repeat (apply Lake.AllP.mp; k_is; k_is; k_is; k_is)); trivial)
    (case m => (repeat (apply Lake.AllP.mt; k_is; k_is; k_is; k_is; k_is)); trivial)
    (case c => (repeat (apply Lake.AllP.cl; k_is; kernel_rfl)); trivial)
    (case g => (repeat (first | (apply Lake.AllP.tx; k_is; (first | rfl | decide +kernel)) | (apply Lake.AllP.ap; k_is; rfl) | (apply Lake.AllP.ld; k_is))); trivial)
    (case n | z | Z | t => kernel_rfl)
    (case k => (apply Lake.rO.mk; k_is; rfl; rfl; decide +kernel; decide))
    (case F => (apply Lake.fm_mk8; k_is; exact ⟨rfl, rfl, rfl⟩; rfl; (first | rfl | decide +kernel); (first | rfl | decide +kernel); all_goals (apply Lake.rO.mk; k_is; rfl; rfl; decide +kernel; decide)))
    (case D => (apply Lake.dd_mk8; k_is; exact ⟨rfl, rfl, rfl⟩; rfl; (first | rfl | decide +kernel); (first | rfl | decide +kernel); all_goals (apply PySem.W.mg_of KX G; k_is)))
